/- The reference's Odd. -/
import Derived.Test.YtblnpelbklfloaaVMad
import Derived.Test.YtblnpelbklfloaaVSet
namespace Go.Proofs.Ytblnpelbklfloaa
open Go.RowKit

set_option maxRecDepth 100000 in
set_option maxHeartbeats 2000000 in
theorem odd_4 (x y z b s0 s1 s2 nv D : Int) (j : Nat) (hj : Hid (s2 % 9 = (j : Int))) (hnv : Hid (([.int .i64 s1, .int .i64 0, .int .i64 4608, .int .i64 4609, .int .i64 (-4609), .int .i64 D, .int .i64 2097152, .int .i64 2097153, .int .i64 (-2097152)] : List Value)[j]? = some (.int .i64 nv))) (hj9 : (j : Int) < 9) (hD : wrap64 (2 * x) = D) (hm : Hid (s0 % 5 = 4)) (w : World) : Calls Try.prog 28 #[Pl x y z b, .agg #[.int .i64 s0, .int .i64 s1, .int .i64 s2]] w (Gives w (Pl (wrap64 (2 * x)) (wrap64 (2 * y)) (wrap64 (2 * z)) b)) := by
  unfold Pl
  go_enter Try.func28, Try.ntmps28
  have hB := Below.refl w.heap.size w
  go_wp2_with fail
  refine wp_region_dag (by kernel_rfl) ?_
  intro W1 hk
  have hs : Below w.heap.size w W1 := Below.trans (by repeat (first | exact Below.refl _ _ | refine Below.alloc ?_ (by first | omega | (simp; try omega)) _ | refine Below.setCell ?_ (by first | omega | (simp; try omega)) _)) (hk.mono (by first | omega | (simp; try omega)))
  have v0 : Var W1 (w.heap.size) [.int .i64 x, .int .i64 y, .int .i64 z, .int .i64 b] := Var.low ⟨by first | omega | (simp; try omega), by simp [Cel, go_sem]⟩ hk (by first | omega | (simp; try omega))
  have v1 : Var W1 (w.heap.size + 1) [.int .i64 s0, .int .i64 s1, .int .i64 s2] := Var.low ⟨by first | omega | (simp; try omega), by simp [Cel, go_sem]⟩ hk (by first | omega | (simp; try omega))
  have v2 : Var W1 (w.heap.size + 1 + 1) [.int .i64 0, .int .i64 0, .int .i64 0, .int .i64 0] := Var.low ⟨by first | omega | (simp; try omega), by simp [Cel, go_sem]⟩ hk (by first | omega | (simp; try omega))
  obtain ⟨b2, hb2⟩ : ∃ b, w.heap.size + 1 + 1 = b := ⟨_, rfl⟩
  have lob2 : w.heap.size ≤ b2 := by have := hB.size; omega
  obtain ⟨b1, hb1⟩ : ∃ b, w.heap.size + 1 = b := ⟨_, rfl⟩
  have lob1 : w.heap.size ≤ b1 := by have := hB.size; omega
  obtain ⟨b0, hb0⟩ : ∃ b, w.heap.size = b := ⟨_, rfl⟩
  have lob0 : w.heap.size ≤ b0 := by have := hB.size; omega
  have db0_b2 : b0 ≠ b2 := by omega
  have db1_b2 : b1 ≠ b2 := by omega
  rw [hb2] at v2
  try rw [hb2]
  rw [hb1] at v1
  try rw [hb1]
  rw [hb0] at v0
  try rw [hb0]
  have hB := hB.trans (hs.mono hB.size)
  clear hb0 hb1 hb2 hs hk
  refine dagV (fun _ => trivial) 13 ?hn (fun X => ⟨#[.agg #[.int .i64 x, .int .i64 y, .int .i64 z, .int .i64 b], .agg #[.int .i64 s0, .int .i64 s1, .int .i64 s2], .pointer (some ⟨b0, 0, none⟩), .pointer (some ⟨b1, 0, none⟩), .pointer (some ⟨b2, 0, none⟩), X 12, X 0, X 1, X 2, X 3, X 4, X 5, X 6, X 7, X 8, X 9, X 10, X 11, undef, undef, undef, undef, undef, undef, undef, undef, undef, undef, undef, undef, undef, undef, undef, undef, undef, undef, undef, undef, undef, undef, undef, undef, undef, undef, undef, undef, undef, undef, undef, undef, undef, undef, undef, undef, undef, undef, undef], []⟩) [(0, 0, 0), (0, 0, 0), (0, 0, 0), (0, 0, 0), (0, 0, 0), (0, 0, 0), (0, 0, 0), (0, 0, 0), (0, 0, 0), (0, 0, 0), (0, 0, 0), (0, 0, 0), (0, 0, 0)] (fun _ => []) [.val (.pointer (some ⟨b1, 1, none⟩)), .val (.int .i64 s1), .val (.pointer (some ⟨b0, 0, none⟩)), .val (.pointer (some ⟨b0, 0, none⟩)), .val (.int .i64 x), .val (.int .i64 D), .sl 9 [.int .i64 s1, .int .i64 0, .int .i64 4608, .int .i64 4609, .int .i64 (-4609), .int .i64 D, .int .i64 2097152, .int .i64 2097153, .int .i64 (-2097152)], .val (.pointer (some ⟨b1, 2, none⟩)), .val (.int .i64 s2), .val (.int .i64 (j : Int)), .pt j [.int .i64 s1, .int .i64 0, .int .i64 4608, .int .i64 4609, .int .i64 (-4609), .int .i64 D, .int .i64 2097152, .int .i64 2097153, .int .i64 (-2097152)], .val (.int .i64 nv), .val (.int .i64 nv)] [[], [0], [], [2], [3], [4], [1, 5], [], [7], [8], [6, 9], [10], [11]] [0, 1, 2, 3, 4, 5, 6, 7, 8, 9, 10, 11, 12] [] [] [] (fun _ => 0) W1 (by kernel_rfl) (by kernel_rfl) (by kernel_rfl) (by kernel_rfl) (by kernel_rfl) ?dist ?olds ?op ?al ?st ?into ?fin (fun _ => undef) _ _ (by kernel_rfl) (of_decide_eq_true (by kernel_rfl)) (of_decide_eq_true (by kernel_rfl))
  case hn => rfl
  case dist => intro i hi j hj; simp at hi hj; try omega
  case olds => exact nofun
  case op =>
    repeat' first | exact Each.nil | refine Each.cons ?_ ?_
    all_goals intro X w7 H hb hD h
    · refine tv rfl (by rfl) ?_ (by exact h _ w7 rfl (Below.refl _ _))
      go_simp <;> first | rfl | (simp only [IntWalk.i64_left]; rfl) | (simp only [IntWalk.i64_left, *]; done) | (simp only [IntWalk.i64_left, *]; rfl)
    · have e0_ : X 0 = _ := hD 0 (by decide) rfl
      have hv := v1.below (show Keep [] _ _ from hb).nil
      have c0_ := hv.at 1 rfl
      refine tv rfl (by simp only [e0_]; rfl) ?_ (by exact h _ w7 rfl (Below.refl _ _))
      simp only [e0_]; go_simp <;> first | rfl | (simp only [IntWalk.i64_left]; rfl) | (simp only [IntWalk.i64_left, *]; done) | (simp only [IntWalk.i64_left, *]; rfl)
    · refine tv rfl (by rfl) ?_ (by exact h _ w7 rfl (Below.refl _ _))
      go_simp <;> first | rfl | (simp only [IntWalk.i64_left]; rfl) | (simp only [IntWalk.i64_left, *]; done) | (simp only [IntWalk.i64_left, *]; rfl)
    · have e2_ : X 2 = _ := hD 2 (by decide) rfl
      refine tv rfl (by simp only [e2_]; rfl) ?_ (by exact h _ w7 rfl (Below.refl _ _))
      simp only [e2_]; go_simp <;> first | rfl | (simp only [IntWalk.i64_left]; rfl) | (simp only [IntWalk.i64_left, *]; done) | (simp only [IntWalk.i64_left, *]; rfl)
    · have e3_ : X 3 = _ := hD 3 (by decide) rfl
      have hv := v0.below (show Keep [] _ _ from hb).nil
      have c0_ := hv.at 0 rfl
      refine tv rfl (by simp only [e3_]; rfl) ?_ (by exact h _ w7 rfl (Below.refl _ _))
      simp only [e3_]; go_simp <;> first | rfl | (simp only [IntWalk.i64_left]; rfl) | (simp only [IntWalk.i64_left, *]; done) | (simp only [IntWalk.i64_left, *]; rfl)
    · have e4_ : X 4 = _ := hD 4 (by decide) rfl
      refine tv rfl (by simp only [e4_]; rfl) ?_ (by exact h _ w7 rfl (Below.refl _ _))
      simp only [e4_]; go_simp <;> first | rfl | (simp only [IntWalk.i64_left]; rfl) | (simp only [IntWalk.i64_left, *]; done) | (simp only [IntWalk.i64_left, *]; rfl)
    · have e1_ : X 1 = _ := hD 1 (by decide) rfl
      have e5_ : X 5 = _ := hD 5 (by decide) rfl
      refine wpOp_run rfl ?_
      simp only [e1_, e5_]; go_simp
      have h := h _ _ ⟨_, rfl, Var.new w7 [.int .i64 s1, .int .i64 0, .int .i64 4608, .int .i64 4609, .int .i64 (-4609), .int .i64 D, .int .i64 2097152, .int .i64 2097153, .int .i64 (-2097152)] 3⟩ (belowA _ _)
      have u1_ : ∀ v, upd X 6 v 1 = X 1 := fun _ => rfl
      have u5_ : ∀ v, upd X 6 v 5 = X 5 := fun _ => rfl
      simp only [u1_, u5_, e1_, e5_] at h
      exact h
    · refine tv rfl (by rfl) ?_ (by exact h _ w7 rfl (Below.refl _ _))
      go_simp <;> first | rfl | (simp only [IntWalk.i64_left]; rfl) | (simp only [IntWalk.i64_left, *]; done) | (simp only [IntWalk.i64_left, *]; rfl)
    · have e7_ : X 7 = _ := hD 7 (by decide) rfl
      have hv := v1.below (show Keep [] _ _ from hb).nil
      have c0_ := hv.at 2 rfl
      refine tv rfl (by simp only [e7_]; rfl) ?_ (by exact h _ w7 rfl (Below.refl _ _))
      simp only [e7_]; go_simp <;> first | rfl | (simp only [IntWalk.i64_left]; rfl) | (simp only [IntWalk.i64_left, *]; done) | (simp only [IntWalk.i64_left, *]; rfl)
    · have e8_ : X 8 = _ := hD 8 (by decide) rfl
      refine wpOp_call (i := 9) (f := 49) (args := #[.int .i64 s2, .int .i64 9]) 15 rfl rfl (by simp only [e8_]; rfl) (by simp only [e8_]; go_simp) ?_
      refine (mod_r s2 9 (by decide) (by decide) _).mono ?_
      rintro e w8 ⟨rfl, rfl⟩
      rw [hj.out]
      exact ⟨_, rfl, h _ _ rfl (Below.refl _ _)⟩
    · obtain ⟨b6_, e6_, Q6_⟩ := hD 6 (by decide) rfl
      have e9_ : X 9 = _ := hD 9 (by decide) rfl
      refine tv rfl (by simp only [e6_, e9_]; rfl) ?_ (by exact h _ w7 ⟨_, rfl, Q6_⟩ (Below.refl _ _))
      simp only [e6_, e9_]; go_simp <;> first | rfl | (simp only [IntWalk.i64_left]; rfl) | (simp only [IntWalk.i64_left, *]; done) | (simp only [IntWalk.i64_left, *]; rfl)
    · obtain ⟨b6_, e10_, Q10_⟩ := hD 10 (by decide) rfl
      have hv := Q10_
      have c0_ := hv.at j hnv.out
      refine tv rfl (by simp only [e10_]; rfl) ?_ (by exact h _ w7 rfl (Below.refl _ _))
      simp only [e10_]; go_simp <;> first | rfl | (simp only [IntWalk.i64_left]; rfl) | (simp only [IntWalk.i64_left, *]; done) | (simp only [IntWalk.i64_left, *]; rfl)
    · have e11_ : X 11 = _ := hD 11 (by decide) rfl
      refine tv rfl (by simp only [e11_]; rfl) ?_ (by exact h _ w7 rfl (Below.refl _ _))
      simp only [e11_]; go_simp <;> first | rfl | (simp only [IntWalk.i64_left]; rfl) | (simp only [IntWalk.i64_left, *]; done) | (simp only [IntWalk.i64_left, *]; rfl)
  case al => exact Each.nil
  case st => exact Each.nil
  case into => exact Each.nil
  case fin =>
    intro X1_ W2 hI
    have hE : Keep [] W1 W2 := hI.keep
    have e12_ : X1_ 12 = _ := hI.fact 12 (by decide) rfl rfl
    have v0 := v0.below hE.nil
    have v1 := v1.below hE.nil
    have v2 := v2.below hE.nil
    have hB := hB.trans (hE.nil.mono hB.size)
    simp only [e12_]
    clear e12_ hI hE
    clear hD hj9
    have cb1_0 := v1.at 0 rfl
    have cb1_1 := v1.at 1 rfl
    have cb1_2 := v1.at 2 rfl
    go_wp2_with fail
    refine (mod_r s0 5 (by decide) (by decide) _).mono ?_
    rintro e wS ⟨rfl, hw_⟩
    have hw_ := hw_.symm
    subst hw_
    rw [hm.out]
    have cb0_0 := v0.at 0 rfl
    have zb0_0 := v0.fr 0 (by simp)
    have cb0_1 := v0.at 1 rfl
    have zb0_1 := v0.fr 1 (by simp)
    have cb0_2 := v0.at 2 rfl
    have zb0_2 := v0.fr 2 (by simp)
    have cb0_3 := v0.at 3 rfl
    have zb0_3 := v0.fr 3 (by simp)
    have cb2_0 := v2.at 0 rfl
    have zb2_0 := v2.fr 0 (by simp)
    have cb2_1 := v2.at 1 rfl
    have zb2_1 := v2.fr 1 (by simp)
    have cb2_2 := v2.at 2 rfl
    have zb2_2 := v2.fr 2 (by simp)
    have cb2_3 := v2.at 3 rfl
    have zb2_3 := v2.fr 3 (by simp)
    go_wp2_with fail
    have hv_ := (((((((v2.setOther (b := b0) (show b2 ≠ b0 by first | assumption | (apply Ne.symm; assumption)) 0 (.int .i64 (wrap64 (2 * x)))).setOther (b := b0) (show b2 ≠ b0 by first | assumption | (apply Ne.symm; assumption)) 1 (.int .i64 (wrap64 (2 * y)))).setOther (b := b0) (show b2 ≠ b0 by first | assumption | (apply Ne.symm; assumption)) 2 (.int .i64 (wrap64 (2 * z)))).set1 0 (.int .i64 (wrap64 (2 * x))) (by simp)).set1 1 (.int .i64 (wrap64 (2 * y))) (by simp)).set1 2 (.int .i64 (wrap64 (2 * z))) (by simp)).set1 3 (.int .i64 b) (by simp))
    have hBF : Below w.heap.size w (((((((W2.setCell ⟨b0, 0, none⟩ (.int .i64 (wrap64 (2 * x)))).setCell ⟨b0, 1, none⟩ (.int .i64 (wrap64 (2 * y)))).setCell ⟨b0, 2, none⟩ (.int .i64 (wrap64 (2 * z)))).setCell ⟨b2, 0, none⟩ (.int .i64 (wrap64 (2 * x)))).setCell ⟨b2, 1, none⟩ (.int .i64 (wrap64 (2 * y)))).setCell ⟨b2, 2, none⟩ (.int .i64 (wrap64 (2 * z)))).setCell ⟨b2, 3, none⟩ (.int .i64 b)) := by repeat (first | with_reducible exact hB | with_reducible refine Below.setCell ?_ (by first | omega | (simp; try omega)) _)
    clear cb1_0 cb1_1 cb1_2 cb0_0 cb0_1 cb0_2 cb0_3 cb2_0 cb2_1 cb2_2 cb2_3 zb0_0 zb0_1 zb0_2 zb0_3 zb2_0 zb2_1 zb2_2 zb2_3
    obtain ⟨WF, hWF⟩ : ∃ WF, (((((((W2.setCell ⟨b0, 0, none⟩ (.int .i64 (wrap64 (2 * x)))).setCell ⟨b0, 1, none⟩ (.int .i64 (wrap64 (2 * y)))).setCell ⟨b0, 2, none⟩ (.int .i64 (wrap64 (2 * z)))).setCell ⟨b2, 0, none⟩ (.int .i64 (wrap64 (2 * x)))).setCell ⟨b2, 1, none⟩ (.int .i64 (wrap64 (2 * y)))).setCell ⟨b2, 2, none⟩ (.int .i64 (wrap64 (2 * z)))).setCell ⟨b2, 3, none⟩ (.int .i64 b)) = WF := ⟨_, rfl⟩
    rw [hWF] at hv_ hBF
    rw [hWF]
    replace hv_ : Var WF b2 [.int .i64 (wrap64 (2 * x)), .int .i64 (wrap64 (2 * y)), .int .i64 (wrap64 (2 * z)), .int .i64 b] := hv_
    have q0_ := hv_.at 0 rfl
    have q1_ := hv_.at 1 rfl
    have q2_ := hv_.at 2 rfl
    have q3_ := hv_.at 3 rfl
    exact bodyPost_ret (v := .agg #[.int .i64 (wrap64 (2 * x)), .int .i64 (wrap64 (2 * y)), .int .i64 (wrap64 (2 * z)), .int .i64 b]) (by simp [results, Try.results28, go_sem, q0_, q1_, q2_, q3_]) rfl ⟨rfl, hBF⟩
end Go.Proofs.Ytblnpelbklfloaa
