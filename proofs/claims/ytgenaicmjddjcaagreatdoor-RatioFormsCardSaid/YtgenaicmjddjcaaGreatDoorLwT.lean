/- the reference's Made of any list of ints. -/
import Derived.Test.YtgenaicmjddjcaaGreatDoorLwO
import Derived.Test.YtgenaicmjddjcaaGreatDoorLwM
namespace Go.Proofs.YtgenaicmjddjcaaGreatDoor
open Go.RowKit Go.Shelf

def MadeC (w : World) (e : Ending) (w' : World) : Prop := ∃ x : Rat, RB 3 x ∧ RatVC w (some x) e w'
set_option maxRecDepth 100000 in
set_option maxHeartbeats 16000000 in
theorem made_longC (ao : Option Addr) (L cap : Nat) (g : Nat → Int) (h3 : 3 ≤ L) (hL : L ≤ 9223372036854775807) (w : World) (hl : Ints w ao L g) :
 Calls Tryz.prog 18 #[.slice ao L cap] w (MadeC w) := by
 have HLI := hide hl
 have q3 : decide ((L : Int) < 3) = false := decide_eq_false (by omega)
 clear h3
 go_enter Tryz.func18, Tryz.ntmps18
 go_wp2_with fail
 obtain ⟨W1, hW1⟩ : ∃ W1, w.alloc (Obj.cells #[.bool false, .slice none 0 0, .bool false, .slice none 0 0] 37) = W1 := ⟨_, rfl⟩
 have qC : Quad W1 w.heap.size (.bool false) (.slice none 0 0) (.bool false) (.slice none 0 0) := by rw [← hW1]; exact Quad.new _ _ _ _ _ _
 have hB : Below w.heap.size w W1 := by rw [← hW1]; exact below_alloc _ _
 try rw [hW1]
 clear hW1
 refine (rnumber_3 ao L cap g hL W1 (HLI.out.below hB)).mono ?_
 rintro e u1 ⟨z, s4, a4, n4, c4, rfl, N4, hz, k4, l4, hk⟩
 have hB := hB.trans (hk.mono hB.size)
 have qC := qC.below hk
 clear hk
 have HZ := hide hz
 clear hz
 obtain ⟨Z4, hZ4⟩ : ∃ Z, u1.alloc (Obj.cells #[.bool false, .slice none 0 0] 25) = Z := ⟨_, rfl⟩
 obtain ⟨W4, hW4⟩ : ∃ W, (Z4.setCell ⟨u1.heap.size, 0, none⟩ (.bool s4)).setCell ⟨u1.heap.size, 1, none⟩ (.slice a4 n4 c4) = W := ⟨_, rfl⟩
 obtain ⟨H4, hk, bx4⟩ := num_new (c := c4) hZ4 hW4 N4
 clear N4
 obtain ⟨B4, hB4⟩ : ∃ B, u1.heap.size = B := ⟨_, rfl⟩
 have lqC := qC.lt
 rw [hB4] at lqC
 have hB := hB.trans (hk.mono hB.size)
 have qC := qC.below hk
 clear hk
 rw [hB4] at hW4 H4 bx4
 obtain ⟨y40, y41, yz40, yz41⟩ := id bx4
 go_wp2_with fail
 try rw [hW4]
 try rw [hB4]
 clear hW4 hB4
 clear y40 y41 yz40 yz41
 have hB := hB.drew
 have H4 := H4.below (Below.drew (Below.refl W4.heap.size W4))
 have qC := qC.below (Below.drew (Below.refl W4.heap.size W4))
 refine wp_region_held_drew (S := fun w' => Below (W4.drew.heap.size) W4.drew w') (by kernel_rfl) (Below.refl _ _) (fun hHeld => ?_)
 obtain ⟨WE, hWE⟩ : ∃ W, W4.drew = W := ⟨_, rfl⟩
 rw [hWE] at hB H4 qC hHeld ⊢
 clear hWE
 have hE := Below.refl WE.heap.size WE
 have lA := H4.box.lt
 obtain ⟨x10, x11, -, -⟩ := id H4.box
 obtain ⟨O, hO⟩ : ∃ O, cmpZ z 0 = O := ⟨_, rfl⟩
 have HO := hide hO
 clear hO hHeld
 refine dagT 4 rfl (fun X => ⟨#[.slice ao L cap, undef, .pointer (some ⟨w.heap.size, 0, none⟩), undef, .pointer (some ⟨B4, 0, none⟩), undef, undef, .slice ao L cap, .int .i64 (L : Int), .bool false, undef, undef, undef, undef, undef, undef, undef, undef, undef, undef, undef, undef, undef, undef, undef, undef, undef, undef, undef, undef, .slice ao L cap, .agg #[.bool s4, .slice a4 n4 c4], X 0, X 1, X 2, X 3, undef, undef, undef, undef, undef, undef, undef, undef, undef], []⟩) [(0, 0, 0), (0, 0, 0), (0, 0, 0), (0, 0, 0)] [.val (.agg #[.bool s4, .slice a4 n4 c4]), .num 0 true, .val (.int .i64 O), .val (.bool (O == 0))] [[], [], [0, 1], [2]] [0, 1, 2, 3] [] [] 25 37 WE (by kernel_rfl) (by kernel_rfl) (by kernel_rfl) (by kernel_rfl) (by kernel_rfl) ?op ?al ?st ?fin (fun _ => undef) _ _ (by kernel_rfl) (of_decide_eq_true (by kernel_rfl)) (of_decide_eq_true (by kernel_rfl))
 case op =>
  repeat' first | exact Each.nil | refine Each.cons ?_ ?_
  all_goals intro X w7 H hb hD h
  · have q0 := (hb.cell (p := ⟨B4, 0, none⟩) lA).trans x10
    have q1 := (hb.cell (p := ⟨B4, 1, none⟩) lA).trans x11
    refine tv rfl (by rfl) ?_ (by exact h _ w7 rfl (Below.refl _ _))
    go_simp <;> rfl
  · refine wpOp_call (i := 1) (f := 82) (args := #[.int .i64 0]) 33 rfl rfl (by rfl) (by go_simp) ?_
    refine (whole_r 0 (by decide) (by decide) w7).mono ?_
    rintro e w8 ⟨s7, a7, n7, c7, rfl, N7, k7, l7, hk⟩
    exact ⟨_, rfl, h _ w8 ⟨s7, a7, n7, c7, rfl, N7, k7, fun _ => l7⟩ hk⟩
  · have e0_ : X 0 = _ := hD 0 (by decide) rfl
    obtain ⟨s1_, a1_, n1_, c1_, e1_, N1_, k1_, q1_⟩ := hD 1 (by decide) rfl
    have H4 := H4.below hb
    have cc := rcmp_any s4 s1_ a4 a1_ n4 n1_ c4 c1_ z 0 k4 k1_ w7 H4.num N1_
    rw [HO.out] at cc
    refine wpOp_call (i := 2) (f := 81) (args := #[.agg #[.bool s4, .slice a4 n4 c4], .agg #[.bool s1_, .slice a1_ n1_ c1_]]) 34 rfl rfl (by simp only [e0_, e1_]; rfl) (by simp only [e0_, e1_]; go_simp) ?_
    refine (cc).mono ?_
    rintro e w8 ⟨rfl, hk⟩
    exact ⟨_, rfl, h _ w8 rfl hk⟩
  · have e2_ : X 2 = _ := hD 2 (by decide) rfl
    refine tv rfl (by simp only [e2_]; rfl) ?_ (by exact h _ w7 rfl (Below.refl _ _))
    simp only [e2_]; go_simp <;> rfl
 case al => exact Each.nil
 case st => exact Each.nil
 case fin =>
  intro X9 w9 hI
  have hE := hI.below
  have e3_ : X9 3 = _ := hI.fact 3 (by decide) rfl rfl
  have H4 := H4.below hE
  have qC := qC.below hE
  clear hI
  simp only [e3_]
  clear e3_
  clear x10 x11 lA
  have hB := hB.trans (hE.mono hB.size)
  clear hE
  by_cases hz0 : z = 0
  case pos =>
   have hO0 : (O == 0) = true := by rw [← HO.out, hz0]; rfl
   clear hz0
   go_wp2_with fail
   refine (whole_r 1 (by decide) (by decide) w9).mono ?_
   rintro e v1 ⟨s8, a8, n8, c8, rfl, N8, k8, l8, hk⟩
   have hB := hB.trans (hk.mono hB.size)
   have H4 := H4.below hk
   have qC := qC.below hk
   clear hk
   obtain ⟨V1, hV1⟩ : ∃ W, (v1.setCell ⟨B4, 0, none⟩ (.bool s8)).setCell ⟨B4, 1, none⟩ (.slice a8 n8 c8) = W := ⟨_, rfl⟩
   have H4n : Held V1 B4 s8 a8 n8 c8 1 := by rw [← hV1]; exact Held.put N8 H4.box
   have hT : Touch B4 0 2 v1 V1 := by rw [← hV1]; exact (Touch.setCell v1 _ (Nat.le_refl _) (by omega)).trans (Touch.setCell _ _ (by omega) (by omega))
   have qC := qC.touch (Nat.ne_of_lt lqC) (hT.widen (Nat.le_refl _) (by omega))
   have hB : Below w.heap.size w V1 := by rw [← hV1]; exact below_set2 hB (Nat.le_of_lt lqC) _ _
   have ho := id H4.box
   have H4 := H4n
   clear H4n hT N8
   obtain ⟨y0, y1, yz0, yz1⟩ := id ho
   go_wp2_with fail
   try rw [hV1]
   clear hV1
   clear y0 y1 yz0 yz1
   clear ho
   have hB := hB.drew
   have H4 := H4.below (Below.drew (Below.refl V1.heap.size V1))
   have qC := qC.below (Below.drew (Below.refl V1.heap.size V1))
   refine wp_region_held_drew (S := fun w' => Below (V1.drew.heap.size) V1.drew w') (by kernel_rfl) (Below.refl _ _) (fun hHeld => ?_)
   obtain ⟨WF, hWE⟩ : ∃ W, V1.drew = W := ⟨_, rfl⟩
   rw [hWE] at hB H4 qC hHeld ⊢
   clear hWE
   have hE := Below.refl WF.heap.size WF
   have lBx := H4.box.lt
   have lC := qC.lt
   obtain ⟨x10, x11, -, -⟩ := id H4.box
   clear hHeld
   refine dagT 10 rfl (fun X => ⟨#[.slice ao L cap, undef, .pointer (some ⟨w.heap.size, 0, none⟩), undef, .pointer (some ⟨B4, 0, none⟩), X 7, X 9, .slice ao L cap, .int .i64 (L : Int), .bool false, undef, undef, undef, undef, undef, undef, undef, undef, undef, undef, undef, undef, undef, undef, undef, undef, undef, undef, undef, undef, .slice ao L cap, .agg #[.bool s4, .slice a4 n4 c4], X9 0, X9 1, X9 2, .bool true, .agg #[.bool s8, .slice a8 n8 c8], X 4, X 0, X 1, X 2, X 3, X 5, X 6, undef], []⟩) [(0, 0, 0), (0, 0, 0), (0, 0, 0), (0, 0, 0), (0, 0, 0), (0, 0, 0), (0, 0, 0), (2, 8, 5), (3, 7, 5), (0, 0, 0)] [.val (.slice ao L cap), .ex (fun y => y.natAbs < bp 3) (fun y => .num y true), .val (.agg #[.bool s8, .slice a8 n8 c8]), .ex (fun y => y.natAbs < bp 3) (fun y => .ratok (numO (some (Rat.divInt y (1)))) (denO (some (Rat.divInt y (1)))) true true), .ex (fun y => y.natAbs < bp 3) (fun y => .ratok (numO (some (Rat.divInt y (1)))) (denO (some (Rat.divInt y (1)))) true true), .ex (fun y => y.natAbs < bp 3) (fun y => .rat (numO (some (Rat.divInt y (1)))) (denO (some (Rat.divInt y (1)))) true), .val (.bool true), .none, .none, .val (.bool true)] [[], [0], [], [1, 2], [3], [4], [4], [], [5, 7], [6]] [0, 1, 2, 3, 4, 5, 6, 9] [7] [8] 25 37 WF (by kernel_rfl) (by kernel_rfl) (by kernel_rfl) (by kernel_rfl) (by kernel_rfl) ?op ?al ?st ?fin (fun _ => undef) _ _ (by kernel_rfl) (of_decide_eq_true (by kernel_rfl)) (of_decide_eq_true (by kernel_rfl))
   case op =>
    repeat' first | exact Each.nil | refine Each.cons ?_ ?_
    all_goals intro X w7 H hb hD h
    · refine tv rfl (by rfl) ?_ (by exact h _ w7 rfl (Below.refl _ _))
      go_simp <;> rfl
    · have e0_ : X 0 = _ := hD 0 (by decide) rfl
      refine wpOp_call (i := 1) (f := 80) (args := #[.slice ao L cap, .int .i64 0]) 39 rfl rfl (by simp only [e0_]; rfl) (by simp only [e0_]; go_simp) ?_
      refine (rnumber_0 ao L cap g hL w7 (HLI.out.below (hB.trans (hb.mono hB.size)))).mono ?_
      rintro e w8 ⟨y, s9, a9, n9, c9, rfl, N9, hy, k9, l9, hk⟩
      exact ⟨_, rfl, h _ w8 ⟨y, hy, s9, a9, n9, c9, rfl, N9, k9, fun _ => l9⟩ hk⟩
    · have q0 := (hb.cell (p := ⟨B4, 0, none⟩) lBx).trans x10
      have q1 := (hb.cell (p := ⟨B4, 1, none⟩) lBx).trans x11
      refine tv rfl (by rfl) ?_ (by exact h _ w7 rfl (Below.refl _ _))
      go_simp <;> rfl
    · obtain ⟨y1_, h1_, s1_, a1_, n1_, c1_, e1_, N1_, k1_, q1_⟩ := hD 1 (by decide) rfl
      have e2_ : X 2 = _ := hD 2 (by decide) rfl
      have H4 := H4.below hb
      refine wpOp_call (i := 3) (f := 31) (args := #[.agg #[.bool s1_, .slice a1_ n1_ c1_], .agg #[.bool s8, .slice a8 n8 c8]]) 41 rfl rfl (by simp only [e1_, e2_]; rfl) (by simp only [e1_, e2_]; go_simp) ?_
      refine (rofC_any s1_ s8 a1_ a8 n1_ n8 c1_ c8 y1_ 1 k1_ k8 (q1_ rfl) l8 (by decide) w7 N1_ H4.num).mono ?_
      rintro e w8 ⟨s11, a11, n11, c11, s12, a12, n12, c12, rfl, P1, P2, k11, k12, hk, l11, l12⟩
      exact ⟨_, rfl, h _ w8 ⟨y1_, h1_, s11, a11, n11, c11, s12, a12, n12, c12, rfl, P1, P2, k11, k12, fun _ => ⟨l11, l12⟩⟩ hk⟩
    · obtain ⟨y3_, h3_, s3_, a3_, n3_, c3_, t3_, b3_, m3_, d3_, e3_, N3_, M3_, k3_, l3_, q3_⟩ := hD 3 (by decide) rfl
      refine tv rfl (by simp only [e3_]; rfl) ?_ (by exact h _ w7 ⟨y3_, h3_, s3_, a3_, n3_, c3_, t3_, b3_, m3_, d3_, rfl, N3_, M3_, k3_, l3_, q3_⟩ (Below.refl _ _))
      simp only [e3_]; go_simp <;> rfl
    · obtain ⟨y4_, h4_, s4_, a4_, n4_, c4_, t4_, b4_, m4_, d4_, e4_, N4_, M4_, k4_, l4_, q4_⟩ := hD 4 (by decide) rfl
      refine tv rfl (by simp only [e4_]; rfl) ?_ (by exact h _ w7 ⟨y4_, h4_, s4_, a4_, n4_, c4_, t4_, b4_, m4_, d4_, rfl, N4_, M4_, k4_, l4_, q4_⟩ (Below.refl _ _))
      simp only [e4_]; go_simp <;> rfl
    · obtain ⟨y4_, h4_, s4_, a4_, n4_, c4_, t4_, b4_, m4_, d4_, e4_, N4_, M4_, k4_, l4_, q4_⟩ := hD 4 (by decide) rfl
      refine tv rfl (by simp only [e4_]; rfl) ?_ (by exact h _ w7 rfl (Below.refl _ _))
      simp only [e4_]; go_simp <;> rfl
    · have e6_ : X 6 = _ := hD 6 (by decide) rfl
      refine tv rfl (by simp only [e6_]; rfl) ?_ (by exact h _ w7 rfl (Below.refl _ _))
      simp only [e6_]; go_simp <;> rfl
   case al =>
    repeat' first | exact Each.nil | refine Each.cons ?_ ?_
    all_goals exact fun X w7 H h => wpOp_run rfl (by go_simp; exact h)
   case st =>
    repeat' first | exact Each.nil | refine Each.cons ?_ ?_
    all_goals intro X w7 H b u0 hX hC hG h
    · replace hX : X 7 = .pointer (some ⟨b, 0, none⟩) := hX
      obtain ⟨y5_, h5_, s5_, a5_, n5_, c5_, t5_, b5_, m5_, d5_, e5_, N5_, M5_, k5_, l5_, q5_⟩ := hG
      obtain ⟨_, _, _, _, _, _, _, _, -, ⟨⟨y0, y1, y2, y3⟩, z0, z1, z2, z3⟩⟩ := hC
      have e : X 5 = _ := e5_
      refine wpOp_run rfl ?_
      simp only [hX, e] at h ⊢
      go_simp
      exact h _ ⟨_, _, _, _, _, _, _, _, e5_, rfl⟩
   case fin =>
    intro X11 wF hI
    have hE := hI.below
    obtain ⟨y5_, h5_, s5_, a5_, n5_, c5_, t5_, b5_, m5_, d5_, e5_, N5_, M5_, k5_, l5_, q5_⟩ := hI.fact 5 (by decide) rfl rfl
    obtain ⟨B7, e7_, g7, Q7⟩ := hI.box 7 (by decide) rfl (by decide)
    replace Q7 : Cont 2 wF B7 (X11 5) := Q7
    rw [e5_] at Q7
    replace Q7 := Q7.rat
    have qC := qC.below hE
    clear hI
    simp only [e5_, e7_]
    clear e5_ e7_
    clear x10 x11 lBx
    have hB := hB.trans (hE.mono hB.size)
    have gq : w.heap.size < B7 := Nat.lt_of_lt_of_le lC g7
    clear hE lC g7
    have P1 := N5_
    have P2 := M5_
    obtain ⟨l8, l9⟩ := q5_ rfl
    have HY := hide h5_
    clear h5_
    obtain ⟨Wz, hWz⟩ : ∃ W, (((wF.setCell ⟨w.heap.size, 0, none⟩ (.bool s5_)).setCell ⟨w.heap.size, 1, none⟩ (.slice a5_ n5_ c5_)).setCell ⟨w.heap.size, 2, none⟩ (.bool t5_)).setCell ⟨w.heap.size, 3, none⟩ (.slice b5_ m5_ d5_) = W := ⟨_, rfl⟩
    obtain ⟨hQ, hT⟩ := qC.set _ _ _ _ hWz
    have hBz : Below w.heap.size w Wz := by rw [← hWz]; exact below_set4 hB (by omega) _ _ _ _
    have P1 := P1.quad qC.four hT
    have P2 := P2.quad qC.four hT
    have K := hide (And.intro hQ (And.intro P1 (And.intro P2 hBz)))
    have HWz := hide hWz
    clear hQ hBz hWz hT P1 P2
    obtain ⟨⟨x90, x91, x92, x93⟩, z90, z91, z92, z93⟩ := id qC
    obtain ⟨⟨x70, x71, x72, x73⟩, -, -, -, -⟩ := id Q7
    go_wp2
    obtain ⟨⟨⟨q0, q1, q2, q3⟩, -, -, -, -⟩, P1, P2, hBB⟩ := K.out
    rw [HWz.out]
    exact bodyPost_ret (v := .agg #[.bool s5_, .slice a5_ n5_ c5_, .bool t5_, .slice b5_ m5_ d5_]) (by simp [results, Tryz.results18, go_sem, q0, q1, q2, q3]) rfl ⟨_, RB.divInt (by decide) HY.out (Nat.lt_of_lt_of_le (m := 2) (by decide) (by decide)), _, _, _, _, _, _, _, _, rfl, P1, P2, k5_, l5_, hBB, l8, l9⟩
  case neg =>
   have hO0 : (O == 0) = false := by
    rw [← HO.out]; unfold cmpZ
    by_cases h : z < 0
    · rw [if_pos h]; rfl
    · rw [if_neg h, if_neg (by omega)]; rfl
   have HN := hide hz0
   clear hz0
   go_wp2_with fail
   simp only [hO0]
   clear hO0
   have hB := hB.drew
   have H4 := H4.below (Below.drew (Below.refl w9.heap.size w9))
   have qC := qC.below (Below.drew (Below.refl w9.heap.size w9))
   refine wp_region_held_drew (S := fun w' => Below (w9.drew.heap.size) w9.drew w') (by kernel_rfl) (Below.refl _ _) (fun hHeld => ?_)
   obtain ⟨WF, hWE⟩ : ∃ W, w9.drew = W := ⟨_, rfl⟩
   rw [hWE] at hB H4 qC hHeld ⊢
   clear hWE
   have hE := Below.refl WF.heap.size WF
   have lBx := H4.box.lt
   have lC := qC.lt
   obtain ⟨x10, x11, -, -⟩ := id H4.box
   clear hHeld
   refine dagT 10 rfl (fun X => ⟨#[.slice ao L cap, undef, .pointer (some ⟨w.heap.size, 0, none⟩), undef, .pointer (some ⟨B4, 0, none⟩), X 7, X 9, .slice ao L cap, .int .i64 (L : Int), .bool false, undef, undef, undef, undef, undef, undef, undef, undef, undef, undef, undef, undef, undef, undef, undef, undef, undef, undef, undef, undef, .slice ao L cap, .agg #[.bool s4, .slice a4 n4 c4], X9 0, X9 1, X9 2, .bool false, undef, X 4, X 0, X 1, X 2, X 3, X 5, X 6, undef], []⟩) [(0, 0, 0), (0, 0, 0), (0, 0, 0), (0, 0, 0), (0, 0, 0), (0, 0, 0), (0, 0, 0), (2, 8, 5), (3, 7, 5), (0, 0, 0)] [.val (.slice ao L cap), .ex (fun y => y.natAbs < bp 3) (fun y => .num y true), .val (.agg #[.bool s4, .slice a4 n4 c4]), .ex (fun y => y.natAbs < bp 3) (fun y => .ratok (numO (some (Rat.divInt y (z)))) (denO (some (Rat.divInt y (z)))) true true), .ex (fun y => y.natAbs < bp 3) (fun y => .ratok (numO (some (Rat.divInt y (z)))) (denO (some (Rat.divInt y (z)))) true true), .ex (fun y => y.natAbs < bp 3) (fun y => .rat (numO (some (Rat.divInt y (z)))) (denO (some (Rat.divInt y (z)))) true), .val (.bool true), .none, .none, .val (.bool true)] [[], [0], [], [1, 2], [3], [4], [4], [], [5, 7], [6]] [0, 1, 2, 3, 4, 5, 6, 9] [7] [8] 25 37 WF (by kernel_rfl) (by kernel_rfl) (by kernel_rfl) (by kernel_rfl) (by kernel_rfl) ?op ?al ?st ?fin (fun _ => undef) _ _ (by kernel_rfl) (of_decide_eq_true (by kernel_rfl)) (of_decide_eq_true (by kernel_rfl))
   case op =>
    repeat' first | exact Each.nil | refine Each.cons ?_ ?_
    all_goals intro X w7 H hb hD h
    · refine tv rfl (by rfl) ?_ (by exact h _ w7 rfl (Below.refl _ _))
      go_simp <;> rfl
    · have e0_ : X 0 = _ := hD 0 (by decide) rfl
      refine wpOp_call (i := 1) (f := 80) (args := #[.slice ao L cap, .int .i64 0]) 39 rfl rfl (by simp only [e0_]; rfl) (by simp only [e0_]; go_simp) ?_
      refine (rnumber_0 ao L cap g hL w7 (HLI.out.below (hB.trans (hb.mono hB.size)))).mono ?_
      rintro e w8 ⟨y, s9, a9, n9, c9, rfl, N9, hy, k9, l9, hk⟩
      exact ⟨_, rfl, h _ w8 ⟨y, hy, s9, a9, n9, c9, rfl, N9, k9, fun _ => l9⟩ hk⟩
    · have q0 := (hb.cell (p := ⟨B4, 0, none⟩) lBx).trans x10
      have q1 := (hb.cell (p := ⟨B4, 1, none⟩) lBx).trans x11
      refine tv rfl (by rfl) ?_ (by exact h _ w7 rfl (Below.refl _ _))
      go_simp <;> rfl
    · obtain ⟨y1_, h1_, s1_, a1_, n1_, c1_, e1_, N1_, k1_, q1_⟩ := hD 1 (by decide) rfl
      have e2_ : X 2 = _ := hD 2 (by decide) rfl
      have H4 := H4.below hb
      refine wpOp_call (i := 3) (f := 31) (args := #[.agg #[.bool s1_, .slice a1_ n1_ c1_], .agg #[.bool s4, .slice a4 n4 c4]]) 41 rfl rfl (by simp only [e1_, e2_]; rfl) (by simp only [e1_, e2_]; go_simp) ?_
      refine (rofC_any s1_ s4 a1_ a4 n1_ n4 c1_ c4 y1_ z k1_ k4 (q1_ rfl) l4 HN.out w7 N1_ H4.num).mono ?_
      rintro e w8 ⟨s11, a11, n11, c11, s12, a12, n12, c12, rfl, P1, P2, k11, k12, hk, l11, l12⟩
      exact ⟨_, rfl, h _ w8 ⟨y1_, h1_, s11, a11, n11, c11, s12, a12, n12, c12, rfl, P1, P2, k11, k12, fun _ => ⟨l11, l12⟩⟩ hk⟩
    · obtain ⟨y3_, h3_, s3_, a3_, n3_, c3_, t3_, b3_, m3_, d3_, e3_, N3_, M3_, k3_, l3_, q3_⟩ := hD 3 (by decide) rfl
      refine tv rfl (by simp only [e3_]; rfl) ?_ (by exact h _ w7 ⟨y3_, h3_, s3_, a3_, n3_, c3_, t3_, b3_, m3_, d3_, rfl, N3_, M3_, k3_, l3_, q3_⟩ (Below.refl _ _))
      simp only [e3_]; go_simp <;> rfl
    · obtain ⟨y4_, h4_, s4_, a4_, n4_, c4_, t4_, b4_, m4_, d4_, e4_, N4_, M4_, k4_, l4_, q4_⟩ := hD 4 (by decide) rfl
      refine tv rfl (by simp only [e4_]; rfl) ?_ (by exact h _ w7 ⟨y4_, h4_, s4_, a4_, n4_, c4_, t4_, b4_, m4_, d4_, rfl, N4_, M4_, k4_, l4_, q4_⟩ (Below.refl _ _))
      simp only [e4_]; go_simp <;> rfl
    · obtain ⟨y4_, h4_, s4_, a4_, n4_, c4_, t4_, b4_, m4_, d4_, e4_, N4_, M4_, k4_, l4_, q4_⟩ := hD 4 (by decide) rfl
      refine tv rfl (by simp only [e4_]; rfl) ?_ (by exact h _ w7 rfl (Below.refl _ _))
      simp only [e4_]; go_simp <;> rfl
    · have e6_ : X 6 = _ := hD 6 (by decide) rfl
      refine tv rfl (by simp only [e6_]; rfl) ?_ (by exact h _ w7 rfl (Below.refl _ _))
      simp only [e6_]; go_simp <;> rfl
   case al =>
    repeat' first | exact Each.nil | refine Each.cons ?_ ?_
    all_goals exact fun X w7 H h => wpOp_run rfl (by go_simp; exact h)
   case st =>
    repeat' first | exact Each.nil | refine Each.cons ?_ ?_
    all_goals intro X w7 H b u0 hX hC hG h
    · replace hX : X 7 = .pointer (some ⟨b, 0, none⟩) := hX
      obtain ⟨y5_, h5_, s5_, a5_, n5_, c5_, t5_, b5_, m5_, d5_, e5_, N5_, M5_, k5_, l5_, q5_⟩ := hG
      obtain ⟨_, _, _, _, _, _, _, _, -, ⟨⟨y0, y1, y2, y3⟩, z0, z1, z2, z3⟩⟩ := hC
      have e : X 5 = _ := e5_
      refine wpOp_run rfl ?_
      simp only [hX, e] at h ⊢
      go_simp
      exact h _ ⟨_, _, _, _, _, _, _, _, e5_, rfl⟩
   case fin =>
    intro X11 wF hI
    have hE := hI.below
    obtain ⟨y5_, h5_, s5_, a5_, n5_, c5_, t5_, b5_, m5_, d5_, e5_, N5_, M5_, k5_, l5_, q5_⟩ := hI.fact 5 (by decide) rfl rfl
    obtain ⟨B7, e7_, g7, Q7⟩ := hI.box 7 (by decide) rfl (by decide)
    replace Q7 : Cont 2 wF B7 (X11 5) := Q7
    rw [e5_] at Q7
    replace Q7 := Q7.rat
    have qC := qC.below hE
    clear hI
    simp only [e5_, e7_]
    clear e5_ e7_
    clear x10 x11 lBx
    have hB := hB.trans (hE.mono hB.size)
    have gq : w.heap.size < B7 := Nat.lt_of_lt_of_le lC g7
    clear hE lC g7
    have P1 := N5_
    have P2 := M5_
    obtain ⟨l8, l9⟩ := q5_ rfl
    have HY := hide h5_
    clear h5_
    obtain ⟨Wz, hWz⟩ : ∃ W, (((wF.setCell ⟨w.heap.size, 0, none⟩ (.bool s5_)).setCell ⟨w.heap.size, 1, none⟩ (.slice a5_ n5_ c5_)).setCell ⟨w.heap.size, 2, none⟩ (.bool t5_)).setCell ⟨w.heap.size, 3, none⟩ (.slice b5_ m5_ d5_) = W := ⟨_, rfl⟩
    obtain ⟨hQ, hT⟩ := qC.set _ _ _ _ hWz
    have hBz : Below w.heap.size w Wz := by rw [← hWz]; exact below_set4 hB (by omega) _ _ _ _
    have P1 := P1.quad qC.four hT
    have P2 := P2.quad qC.four hT
    have K := hide (And.intro hQ (And.intro P1 (And.intro P2 hBz)))
    have HWz := hide hWz
    clear hQ hBz hWz hT P1 P2
    obtain ⟨⟨x90, x91, x92, x93⟩, z90, z91, z92, z93⟩ := id qC
    obtain ⟨⟨x70, x71, x72, x73⟩, -, -, -, -⟩ := id Q7
    go_wp2
    obtain ⟨⟨⟨q0, q1, q2, q3⟩, -, -, -, -⟩, P1, P2, hBB⟩ := K.out
    rw [HWz.out]
    exact bodyPost_ret (v := .agg #[.bool s5_, .slice a5_ n5_ c5_, .bool t5_, .slice b5_ m5_ d5_]) (by simp [results, Tryz.results18, go_sem, q0, q1, q2, q3]) rfl ⟨_, RB.divInt HN.out HY.out HZ.out, _, _, _, _, _, _, _, _, rfl, P1, P2, k5_, l5_, hBB, l8, l9⟩
theorem madeC_any (ao : Option Addr) (L cap : Nat) (g : Nat → Int) (hL : L ≤ 9223372036854775807) (w : World) (hl : Ints w ao L g) :
 Calls Tryz.prog 18 #[.slice ao L cap] w (MadeC w) := by
 by_cases h : 3 ≤ L
 · exact made_longC ao L cap g h hL w hl
 · exact (made_smallC ao L cap g (by omega) w hl).mono fun _ _ ⟨x, hs, hv⟩ => ⟨x, hs.rb.mono (by decide), hv⟩
end Go.Proofs.YtgenaicmjddjcaaGreatDoor
