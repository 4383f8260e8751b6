/- ratio's Ceil. -/
import Derived.Test.YtgenaicmjddjcaaGreatDoorRaG
import Derived.Test.YtgenaicmjddjcaaGreatDoorDagS
namespace Go.Proofs.YtgenaicmjddjcaaGreatDoor
open Go.RowKit Go.Shelf

set_option maxRecDepth 100000 in
set_option maxHeartbeats 4000000 in
theorem ceil_r (s1 s2 : Bool) (a1 a2 : Option Addr) (n1 n2 c1 c2 : Nat) (ox : Option Rat) (w : World) (hx : RArg w s1 a1 n1 s2 a2 n2 ox) :
 Calls Tryz.prog 24 #[.agg #[.bool s1, .slice a1 n1 c1, .bool s2, .slice a2 n2 c2]] w (IntPost w (ceilO ox)) := by
 go_enter Tryz.func24, Tryz.ntmps24
 go_wp2_with fail
 obtain ⟨W1, hW1⟩ : ∃ W1, w.alloc (Obj.cells #[.bool s1, .slice a1 n1 c1, .bool s2, .slice a2 n2 c2] 37) = W1 := ⟨_, rfl⟩
 have qA : Quad W1 w.heap.size (.bool s1) (.slice a1 n1 c1) (.bool s2) (.slice a2 n2 c2) := by rw [← hW1]; exact Quad.new _ _ _ _ _ _
 have hB : Below w.heap.size w W1 := by rw [← hW1]; exact below_alloc _ _
 have hx := hx.below hB
 try rw [hW1]
 clear hW1
 refine (right_r s1 s2 a1 a2 n1 n2 c1 c2 ox W1 hx).mono ?_
 rintro e w1 ⟨rfl, hk⟩
 have hB := hB.trans (hk.mono hB.size)
 have hx := hx.below hk
 have qA := qA.below hk
 clear hk
 cases ox with
 | none =>
   go_wp2
   go_ret2
   exact ⟨rfl, hB⟩
 | some x =>
   have hd0 := hide (rat_den_ne x)
   have pn := len_pos hx.den hd0.out
   go_wp2_with fail
   have hB := hB.drew
   have hx := hx.below (Below.drew (Below.refl w1.heap.size w1))
   have qA := qA.below (Below.drew (Below.refl w1.heap.size w1))
   refine wp_region_held_drew (S := fun w' => Below (w1.drew.heap.size) w1.drew w') (by kernel_rfl) (Below.refl _ _) (fun hHeld => ?_)
   obtain ⟨WE, hWE⟩ : ∃ W, w1.drew = W := ⟨_, rfl⟩
   rw [hWE] at hB hx qA hHeld ⊢
   clear hWE
   have hE := Below.refl WE.heap.size WE
   have lA := qA.lt
   obtain ⟨⟨x0, x1, x2, x3⟩, -, -, -, -⟩ := id qA
   clear hHeld
   refine dagT 15 rfl (fun X => ⟨#[.agg #[.bool s1, .slice a1 n1 c1, .bool s2, .slice a2 n2 c2], .pointer (some ⟨w.heap.size, 0, none⟩), .int .i64 0, .bool false, X 10, X 11, X 14, .agg #[.bool s1, .slice a1 n1 c1, .bool s2, .slice a2 n2 c2], .bool true, .bool false, X 6, X 0, X 1, X 2, X 3, X 4, X 5, X 7, X 8, X 9, undef, undef, undef, undef, undef], []⟩) [(0, 0, 0), (0, 0, 0), (0, 0, 0), (0, 0, 0), (0, 0, 0), (0, 0, 0), (0, 0, 0), (0, 0, 0), (0, 0, 0), (0, 0, 0), (1, 12, 7), (1, 13, 8), (3, 10, 7), (3, 11, 8), (0, 0, 0)] [.val (.pointer (some ⟨w.heap.size, 0, none⟩)), .val (.agg #[.bool s1, .slice a1 n1 c1]), .num (-x.num) false, .val (.pointer (some ⟨w.heap.size, 2, none⟩)), .val (.agg #[.bool s2, .slice a2 n2 c2]), .two ((-x.num) / (x.den : Int)) ((-x.num) % (x.den : Int)) false, .two ((-x.num) / (x.den : Int)) ((-x.num) % (x.den : Int)) false, .num ((-x.num) / (x.den : Int)) false, .num ((-x.num) % (x.den : Int)) false, .val (.bool true), .none, .none, .none, .none, .val (.bool true)] [[], [0], [1], [], [3], [2, 4], [5], [6], [6], [6], [], [], [7, 10], [8, 11], [9]] [0, 1, 2, 3, 4, 5, 6, 7, 8, 9, 14] [10, 11] [12, 13] 25 37 WE (by kernel_rfl) (by kernel_rfl) (by kernel_rfl) (by kernel_rfl) (by kernel_rfl) ?op ?al ?st ?fin (fun _ => undef) _ _ (by kernel_rfl) (of_decide_eq_true (by kernel_rfl)) (of_decide_eq_true (by kernel_rfl))
   case op =>
    repeat' first | exact Each.nil | refine Each.cons ?_ ?_
    all_goals intro X w7 H hb hD h
    · refine tv rfl (by rfl) ?_ (by exact h _ w7 rfl (Below.refl _ _))
      go_simp <;> rfl
    · have e0_ : X 0 = _ := hD 0 (by decide) rfl
      have z0 := (hb.cell (p := ⟨w.heap.size, 0, none⟩) lA).trans x0
      have z1 := (hb.cell (p := ⟨w.heap.size, 1, none⟩) lA).trans x1
      refine tv rfl (by simp only [e0_]; rfl) ?_ (by exact h _ w7 rfl (Below.refl _ _))
      simp only [e0_]; go_simp <;> rfl
    · have e1_ : X 1 = _ := hD 1 (by decide) rfl
      have hx := hx.below hb
      refine wpOp_call (i := 2) (f := 86) (args := #[.agg #[.bool s1, .slice a1 n1 c1]]) 13 rfl rfl (by simp only [e1_]; rfl) (by simp only [e1_]; go_simp) ?_
      refine (opposite_any s1 a1 n1 c1 x.num hx.l1 w7 hx.num).mono ?_
      rintro e w8 ⟨s6, a6, n6, c6, rfl, N6, k6, -, hk⟩
      exact ⟨_, rfl, h _ w8 ⟨s6, a6, n6, c6, rfl, N6, k6, nofun⟩ hk⟩
    · refine tv rfl (by rfl) ?_ (by exact h _ w7 rfl (Below.refl _ _))
      go_simp <;> rfl
    · have e3_ : X 3 = _ := hD 3 (by decide) rfl
      have z2 := (hb.cell (p := ⟨w.heap.size, 2, none⟩) lA).trans x2
      have z3 := (hb.cell (p := ⟨w.heap.size, 3, none⟩) lA).trans x3
      refine tv rfl (by simp only [e3_]; rfl) ?_ (by exact h _ w7 rfl (Below.refl _ _))
      simp only [e3_]; go_simp <;> rfl
    · obtain ⟨s2_, a2_, n2_, c2_, e2_, N2_, k2_, q2_⟩ := hD 2 (by decide) rfl
      have e4_ : X 4 = _ := hD 4 (by decide) rfl
      have hx := hx.below hb
      refine wpOp_call (i := 5) (f := 56) (args := #[.agg #[.bool s2_, .slice a2_ n2_ c2_], .agg #[.bool s2, .slice a2 n2 c2]]) 16 rfl rfl (by simp only [e2_, e4_]; rfl) (by simp only [e2_, e4_]; go_simp) ?_
      refine (div_num s2_ s2 a2_ a2 n2_ n2 c2_ c2 (-x.num) x.den k2_ hx.l2 w7 N2_ hx.den pn).mono ?_
      rintro e w8 ⟨q8, q9, s8, a8, n8, c8, s9, a9, n9, c9, rfl, e8, e9, e10, N8, N9, -, -, k8, k9, hk⟩
      obtain ⟨rfl, rfl⟩ := divs_unique e8 e9 e10 hd0.out
      exact ⟨_, rfl, h _ w8 ⟨s8, a8, n8, c8, s9, a9, n9, c9, rfl, N8, N9, k8, k9, nofun⟩ hk⟩
    · obtain ⟨s5_, a5_, n5_, c5_, t5_, b5_, m5_, d5_, e5_, N5_, M5_, k5_, l5_, q5_⟩ := hD 5 (by decide) rfl
      refine tv rfl (by simp only [e5_]; rfl) ?_ (by exact h _ w7 ⟨s5_, a5_, n5_, c5_, t5_, b5_, m5_, d5_, rfl, N5_, M5_, k5_, l5_, q5_⟩ (Below.refl _ _))
      simp only [e5_]; go_simp <;> rfl
    · obtain ⟨s6_, a6_, n6_, c6_, t6_, b6_, m6_, d6_, e6_, N6_, M6_, k6_, l6_, q6_⟩ := hD 6 (by decide) rfl
      refine tv rfl (by simp only [e6_]; rfl) ?_ (by exact h _ w7 ⟨s6_, a6_, n6_, c6_, rfl, N6_, k6_, fun h => (q6_ h).1⟩ (Below.refl _ _))
      simp only [e6_]; go_simp <;> rfl
    · obtain ⟨s6_, a6_, n6_, c6_, t6_, b6_, m6_, d6_, e6_, N6_, M6_, k6_, l6_, q6_⟩ := hD 6 (by decide) rfl
      refine tv rfl (by simp only [e6_]; rfl) ?_ (by exact h _ w7 ⟨t6_, b6_, m6_, d6_, rfl, M6_, l6_, fun h => (q6_ h).2⟩ (Below.refl _ _))
      simp only [e6_]; go_simp <;> rfl
    · obtain ⟨s6_, a6_, n6_, c6_, t6_, b6_, m6_, d6_, e6_, N6_, M6_, k6_, l6_, q6_⟩ := hD 6 (by decide) rfl
      refine tv rfl (by simp only [e6_]; rfl) ?_ (by exact h _ w7 rfl (Below.refl _ _))
      simp only [e6_]; go_simp <;> rfl
    · have e9_ : X 9 = _ := hD 9 (by decide) rfl
      refine tv rfl (by simp only [e9_]; rfl) ?_ (by exact h _ w7 rfl (Below.refl _ _))
      simp only [e9_]; go_simp <;> rfl
   case al =>
    repeat' first | exact Each.nil | refine Each.cons ?_ ?_
    all_goals exact fun X w7 H h => wpOp_run rfl (by go_simp; exact h)
   case st =>
    repeat' first | exact Each.nil | refine Each.cons ?_ ?_
    all_goals intro X w7 H b u0 hX hC hG h
    · replace hX : X 10 = .pointer (some ⟨b, 0, none⟩) := hX
      obtain ⟨s7_, a7_, n7_, c7_, e7_, N7_, k7_, q7_⟩ := hG
      obtain ⟨_, _, _, _, -, ⟨y0, y1, z0, z1⟩⟩ := hC
      have e : X 7 = _ := e7_
      refine wpOp_run rfl ?_
      simp only [hX, e] at h ⊢
      go_simp
      exact h _ ⟨_, _, _, _, e7_, rfl⟩
    · replace hX : X 11 = .pointer (some ⟨b, 0, none⟩) := hX
      obtain ⟨s8_, a8_, n8_, c8_, e8_, N8_, k8_, q8_⟩ := hG
      obtain ⟨_, _, _, _, -, ⟨y0, y1, z0, z1⟩⟩ := hC
      have e : X 8 = _ := e8_
      refine wpOp_run rfl ?_
      simp only [hX, e] at h ⊢
      go_simp
      exact h _ ⟨_, _, _, _, e8_, rfl⟩
   case fin =>
    intro X3 w9 hI
    have hE := hI.below
    obtain ⟨s7_, a7_, n7_, c7_, e7_, N7_, k7_, q7_⟩ := hI.fact 7 (by decide) rfl rfl
    obtain ⟨B10, e10_, g10, Q10⟩ := hI.box 10 (by decide) rfl (by decide)
    replace Q10 : Cont 1 w9 B10 (X3 7) := Q10
    rw [e7_] at Q10
    replace Q10 := Q10.num
    obtain ⟨s8_, a8_, n8_, c8_, e8_, N8_, k8_, q8_⟩ := hI.fact 8 (by decide) rfl rfl
    clear hI
    simp only [e7_, e8_, e10_]
    clear e7_ e8_ e10_
    clear N8_ k8_ q8_ x0 x1 x2 x3
    have hB := hB.trans (hE.mono hB.size)
    obtain ⟨y0, y1, -, -⟩ := id Q10
    go_wp2_with fail
    clear y0 y1
    refine (opposite_any s7_ a7_ n7_ c7_ _ k7_ w9 N7_).mono ?_
    rintro e u2 ⟨s5, a5, n5, c5, rfl, N5, k5, -, hk⟩
    have hB := hB.trans (hk.mono hB.size)
    clear hk
    go_wp2_with fail
    obtain ⟨O, hO⟩ : ∃ O, intO (some (-((-x.num) / (x.den : Int)))) = O := ⟨_, rfl⟩
    have cc := int_arg s5 a5 n5 c5 (some (-((-x.num) / (x.den : Int)))) u2 ⟨N5, k5⟩
    rw [hO] at cc
    have HO := hide hO
    clear hO
    refine cc.mono ?_
    clear cc
    rintro e u3 ⟨rfl, hk⟩
    have hB := hB.trans (hk.mono hB.size)
    go_wp2
    go_ret2
    exact ⟨by rw [show ceilO (some x) = O from HO.out]; rfl, hB⟩
end Go.Proofs.YtgenaicmjddjcaaGreatDoor
