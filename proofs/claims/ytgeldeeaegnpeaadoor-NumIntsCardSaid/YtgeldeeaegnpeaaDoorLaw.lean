/- the law NumInts: it is true. -/
import Derived.Test.YtgeldeeaegnpeaaDoorSanity
namespace Go.Proofs.YtgeldeeaegnpeaaDoor
open Go.RowKit Go.Shelf

theorem small_fit {z : Int} (h : z.natAbs < 18446744073709551616) : dlen z.natAbs ≤ 64 := Nat.le_trans (dlen_le_two h) (by decide)

set_option maxRecDepth 100000 in
set_option maxHeartbeats 16000000 in
theorem law_true (n m : Int) (hn0 : -9223372036854775808 ≤ n) (hn1 : n ≤ 9223372036854775807) (hm0 : -9223372036854775808 ≤ m) (hm1 : m ≤ 9223372036854775807) (w : World) (ht : Pow10 w) :
    Calls Tryd.prog 3 #[.int .i64 n, .int .i64 m] w fun e w' => e = .returned (.bool true) ∧ Below w.heap.size w w' := by
  go_enter Tryd.func3, Tryd.ntmps3
  go_wp2_with fail
  refine (sanity_true w ht).mono ?_
  rintro e w1 ⟨rfl, hB⟩
  go_wp2_with fail
  refine (of_any n hn0 hn1 w1).mono ?_
  rintro e w2 ⟨s_p2, a_p2, n_p2, c_p2, rfl, p2, hkeep⟩
  have hB := hB.trans (hkeep.mono hB.size)
  have k_p2 : n_p2 ≤ 64 := by rw [p2.dig.len]; exact small_fit (by omega)
  go_wp2_with fail
  refine (int_fit s_p2 a_p2 n_p2 c_p2 n hn0 hn1 w2 p2).mono ?_
  rintro e w3 ⟨rfl, hkeep⟩
  have hB := hB.trans (hkeep.mono hB.size)
  clear p2
  go_wp2_with fail
  obtain ⟨A, hA⟩ : ∃ A, n.tmod 2147483648 = A := ⟨_, rfl⟩
  obtain ⟨B, hBm⟩ : ∃ B, m.tmod 2147483648 = B := ⟨_, rfl⟩
  have hA0 : -2147483648 < A := by rw [← hA]; exact Int.lt_tmod_of_pos n (by decide)
  have hA1 : A < 2147483648 := by rw [← hA]; exact Int.tmod_lt_of_pos n (by decide)
  have hB0 : -2147483648 < B := by rw [← hBm]; exact Int.lt_tmod_of_pos m (by decide)
  have hB1 : B < 2147483648 := by rw [← hBm]; exact Int.tmod_lt_of_pos m (by decide)
  rw [hA, hBm]
  clear hA hBm
  have hP : (A * B).natAbs ≤ 2147483648 * 2147483648 := by rw [Int.natAbs_mul]; exact Nat.mul_le_mul (by omega) (by omega)
  have hP0 : -4611686018427387904 ≤ A * B := by omega
  have hP1 : A * B ≤ 4611686018427387904 := by omega
  clear hP
  refine (of_any A (by omega) (by omega) w3).mono ?_
  rintro e w4 ⟨s_pw4, a_pw4, n_pw4, c_pw4, rfl, pw4, hkeep⟩
  have hB := hB.trans (hkeep.mono hB.size)
  have k_pw4 : n_pw4 ≤ 64 := by rw [pw4.dig.len]; exact small_fit (by omega)
  go_wp2_with fail
  refine (of_any B (by omega) (by omega) w4).mono ?_
  rintro e w5 ⟨s_pw5, a_pw5, n_pw5, c_pw5, rfl, pw5, hkeep⟩
  have hB := hB.trans (hkeep.mono hB.size)
  have pw4 := pw4.below hkeep
  have k_pw5 : n_pw5 ≤ 64 := by rw [pw5.dig.len]; exact small_fit (by omega)
  go_wp2_with fail
  refine (add_any s_pw4 s_pw5 a_pw4 a_pw5 n_pw4 n_pw5 c_pw4 c_pw5 A B k_pw4 k_pw5 w5 pw4 pw5 (small_fit (by omega))).mono ?_
  rintro e w6 ⟨s_pw6, a_pw6, n_pw6, c_pw6, rfl, pw6, -, hkeep⟩
  have hB := hB.trans (hkeep.mono hB.size)
  clear pw4 pw5 k_pw4 k_pw5
  have H10 := Held.new c_pw6 pw6 27
  have hB := hB.trans ((below_alloc w6 (Obj.cells #[.bool s_pw6, .slice a_pw6 n_pw6 c_pw6] 27)).mono hB.size)
  have hkeep := below_alloc w6 (Obj.cells #[.bool s_pw6, .slice a_pw6 n_pw6 c_pw6] 27)
  obtain ⟨W10, hW10⟩ : ∃ W10, w6.alloc (Obj.cells #[.bool s_pw6, .slice a_pw6 n_pw6 c_pw6] 27) = W10 := ⟨_, rfl⟩
  obtain ⟨B10, hB10⟩ : ∃ B10, w6.heap.size = B10 := ⟨_, rfl⟩
  rw [hW10] at hB hkeep H10
  rw [hB10] at H10
  go_wp2_with fail
  try rw [hW10]
  try rw [hB10]
  clear hW10 hB10
  clear pw6
  refine (of_any A (by omega) (by omega) W10).mono ?_
  rintro e w7 ⟨s_pw7, a_pw7, n_pw7, c_pw7, rfl, pw7, hkeep⟩
  have hB := hB.trans (hkeep.mono hB.size)
  have H10 := H10.below hkeep
  have k_pw7 : n_pw7 ≤ 64 := by rw [pw7.dig.len]; exact small_fit (by omega)
  go_wp2_with fail
  refine (of_any B (by omega) (by omega) w7).mono ?_
  rintro e w8 ⟨s_pw8, a_pw8, n_pw8, c_pw8, rfl, pw8, hkeep⟩
  have hB := hB.trans (hkeep.mono hB.size)
  have H10 := H10.below hkeep
  have pw7 := pw7.below hkeep
  have k_pw8 : n_pw8 ≤ 64 := by rw [pw8.dig.len]; exact small_fit (by omega)
  go_wp2_with fail
  refine (sub_any s_pw7 s_pw8 a_pw7 a_pw8 n_pw7 n_pw8 c_pw7 c_pw8 A B k_pw7 k_pw8 w8 pw7 pw8 (small_fit (by omega))).mono ?_
  rintro e w9 ⟨s_pw9, a_pw9, n_pw9, c_pw9, rfl, pw9, -, hkeep⟩
  have hB := hB.trans (hkeep.mono hB.size)
  have H10 := H10.below hkeep
  clear pw7 pw8 k_pw7 k_pw8
  have H12 := Held.new c_pw9 pw9 27
  have hB := hB.trans ((below_alloc w9 (Obj.cells #[.bool s_pw9, .slice a_pw9 n_pw9 c_pw9] 27)).mono hB.size)
  have hkeep := below_alloc w9 (Obj.cells #[.bool s_pw9, .slice a_pw9 n_pw9 c_pw9] 27)
  obtain ⟨W12, hW12⟩ : ∃ W12, w9.alloc (Obj.cells #[.bool s_pw9, .slice a_pw9 n_pw9 c_pw9] 27) = W12 := ⟨_, rfl⟩
  obtain ⟨B12, hB12⟩ : ∃ B12, w9.heap.size = B12 := ⟨_, rfl⟩
  rw [hW12] at hB hkeep H12
  rw [hB12] at H12
  go_wp2_with fail
  try rw [hW12]
  try rw [hB12]
  clear hW12 hB12
  clear pw9
  have H10 := H10.below hkeep
  refine (of_any A (by omega) (by omega) W12).mono ?_
  rintro e w11 ⟨s_pw11, a_pw11, n_pw11, c_pw11, rfl, pw11, hkeep⟩
  have hB := hB.trans (hkeep.mono hB.size)
  have H10 := H10.below hkeep
  have H12 := H12.below hkeep
  have k_pw11 : n_pw11 ≤ 64 := by rw [pw11.dig.len]; exact small_fit (by omega)
  go_wp2_with fail
  refine (of_any B (by omega) (by omega) w11).mono ?_
  rintro e w12 ⟨s_pw12, a_pw12, n_pw12, c_pw12, rfl, pw12, hkeep⟩
  have hB := hB.trans (hkeep.mono hB.size)
  have H10 := H10.below hkeep
  have H12 := H12.below hkeep
  have pw11 := pw11.below hkeep
  have k_pw12 : n_pw12 ≤ 64 := by rw [pw12.dig.len]; exact small_fit (by omega)
  go_wp2_with fail
  refine (mul_any s_pw11 s_pw12 a_pw11 a_pw12 n_pw11 n_pw12 c_pw11 c_pw12 A B k_pw11 k_pw12 w12 pw11 pw12 (small_fit (by omega))).mono ?_
  rintro e w13 ⟨s_pw13, a_pw13, n_pw13, c_pw13, rfl, pw13, -, hkeep⟩
  have hB := hB.trans (hkeep.mono hB.size)
  have H10 := H10.below hkeep
  have H12 := H12.below hkeep
  clear pw11 pw12 k_pw11 k_pw12
  have H14 := Held.new c_pw13 pw13 27
  have hB := hB.trans ((below_alloc w13 (Obj.cells #[.bool s_pw13, .slice a_pw13 n_pw13 c_pw13] 27)).mono hB.size)
  have hkeep := below_alloc w13 (Obj.cells #[.bool s_pw13, .slice a_pw13 n_pw13 c_pw13] 27)
  obtain ⟨W14, hW14⟩ : ∃ W14, w13.alloc (Obj.cells #[.bool s_pw13, .slice a_pw13 n_pw13 c_pw13] 27) = W14 := ⟨_, rfl⟩
  obtain ⟨B14, hB14⟩ : ∃ B14, w13.heap.size = B14 := ⟨_, rfl⟩
  rw [hW14] at hB hkeep H14
  rw [hB14] at H14
  obtain ⟨x0, x1, -, -⟩ := (H10.below hkeep).box
  go_wp2_with fail
  clear x0 x1
  try rw [hW14]
  try rw [hB14]
  clear hW14 hB14
  clear pw13
  have H10 := H10.below hkeep
  have H12 := H12.below hkeep
  refine (int_fit s_pw6 a_pw6 n_pw6 c_pw6 (A + B) (by omega) (by omega) W14 H10.num).mono ?_
  rintro e w15 ⟨rfl, hkeep⟩
  have hB := hB.trans (hkeep.mono hB.size)
  have H12 := H12.below hkeep
  have H14 := H14.below hkeep
  clear H10
  obtain ⟨x0, x1, -, -⟩ := H12.box
  go_wp2_with fail
  clear x0 x1
  refine (int_fit s_pw9 a_pw9 n_pw9 c_pw9 (A - B) (by omega) (by omega) w15 H12.num).mono ?_
  rintro e w16 ⟨rfl, hkeep⟩
  have hB := hB.trans (hkeep.mono hB.size)
  have H14 := H14.below hkeep
  clear H12
  obtain ⟨x0, x1, -, -⟩ := H14.box
  go_wp2_with fail
  clear x0 x1
  refine (int_fit s_pw13 a_pw13 n_pw13 c_pw13 (A * B) (by omega) (by omega) w16 H14.num).mono ?_
  rintro e w17 ⟨rfl, hkeep⟩
  have hB := hB.trans (hkeep.mono hB.size)
  clear H14
  rcases Int.lt_trichotomy n m with h | h | h
  · have HZ : Hid (cmpZ n m = -1) := if_pos h
    have hn2 : ¬ m < n := by omega
    go_wp2_with fail
    refine (of_any n hn0 hn1 w17).mono ?_
    rintro e wa1 ⟨s_pwa1, a_pwa1, n_pwa1, c_pwa1, rfl, pwa1, hkeep⟩
    have hB := hB.trans (hkeep.mono hB.size)
    have k_pwa1 : n_pwa1 ≤ 64 := by rw [pwa1.dig.len]; exact small_fit (by omega)
    go_wp2_with fail
    refine (of_any m hm0 hm1 wa1).mono ?_
    rintro e wa2 ⟨s_pwa2, a_pwa2, n_pwa2, c_pwa2, rfl, pwa2, hkeep⟩
    have hB := hB.trans (hkeep.mono hB.size)
    have pwa1 := pwa1.below hkeep
    have k_pwa2 : n_pwa2 ≤ 64 := by rw [pwa2.dig.len]; exact small_fit (by omega)
    go_wp2_with fail
    refine (cmp_any s_pwa1 s_pwa2 a_pwa1 a_pwa2 n_pwa1 n_pwa2 c_pwa1 c_pwa2 n m k_pwa1 k_pwa2 wa2 pwa1 pwa2).mono ?_
    rintro e wa3 ⟨rfl, hkeep⟩
    have hB := hB.trans (hkeep.mono hB.size)
    clear pwa1 pwa2
    rw [show cmpZ n m = -1 from HZ.out]
    go_wp2_with fail
    refine (of_any n hn0 hn1 wa3).mono ?_
    rintro e wa4 ⟨s_pwa4, a_pwa4, n_pwa4, c_pwa4, rfl, pwa4, hkeep⟩
    have hB := hB.trans (hkeep.mono hB.size)
    have k_pwa4 : n_pwa4 ≤ 64 := by rw [pwa4.dig.len]; exact small_fit (by omega)
    go_wp2_with fail
    refine (right_yes s_pwa4 a_pwa4 n_pwa4 c_pwa4 n k_pwa4 wa4 pwa4).mono ?_
    rintro e wa5 ⟨rfl, hkeep⟩
    have hB := hB.trans (hkeep.mono hB.size)
    go_wp2
    go_ret
    exact ⟨rfl, hB⟩
  · have HZ : Hid (cmpZ n m = 0) := by show cmpZ n m = 0; unfold cmpZ; rw [if_neg (by omega), if_pos h]
    have hn2 : ¬ n < m := by omega
    have hn3 : ¬ m < n := by omega
    clear h
    go_wp2_with fail
    refine (of_any n hn0 hn1 w17).mono ?_
    rintro e wb1 ⟨s_pwb1, a_pwb1, n_pwb1, c_pwb1, rfl, pwb1, hkeep⟩
    have hB := hB.trans (hkeep.mono hB.size)
    have k_pwb1 : n_pwb1 ≤ 64 := by rw [pwb1.dig.len]; exact small_fit (by omega)
    go_wp2_with fail
    refine (of_any m hm0 hm1 wb1).mono ?_
    rintro e wb2 ⟨s_pwb2, a_pwb2, n_pwb2, c_pwb2, rfl, pwb2, hkeep⟩
    have hB := hB.trans (hkeep.mono hB.size)
    have pwb1 := pwb1.below hkeep
    have k_pwb2 : n_pwb2 ≤ 64 := by rw [pwb2.dig.len]; exact small_fit (by omega)
    go_wp2_with fail
    refine (cmp_any s_pwb1 s_pwb2 a_pwb1 a_pwb2 n_pwb1 n_pwb2 c_pwb1 c_pwb2 n m k_pwb1 k_pwb2 wb2 pwb1 pwb2).mono ?_
    rintro e wb3 ⟨rfl, hkeep⟩
    have hB := hB.trans (hkeep.mono hB.size)
    clear pwb1 pwb2
    rw [show cmpZ n m = 0 from HZ.out]
    go_wp2_with fail
    refine (of_any n hn0 hn1 wb3).mono ?_
    rintro e wb4 ⟨s_pwb4, a_pwb4, n_pwb4, c_pwb4, rfl, pwb4, hkeep⟩
    have hB := hB.trans (hkeep.mono hB.size)
    have k_pwb4 : n_pwb4 ≤ 64 := by rw [pwb4.dig.len]; exact small_fit (by omega)
    go_wp2_with fail
    refine (right_yes s_pwb4 a_pwb4 n_pwb4 c_pwb4 n k_pwb4 wb4 pwb4).mono ?_
    rintro e wb5 ⟨rfl, hkeep⟩
    have hB := hB.trans (hkeep.mono hB.size)
    go_wp2
    go_ret
    exact ⟨rfl, hB⟩
  · have HZ : Hid (cmpZ n m = 1) := by show cmpZ n m = 1; unfold cmpZ; rw [if_neg (by omega), if_neg (by omega)]
    have hn2 : ¬ n < m := by omega
    go_wp2_with fail
    refine (of_any n hn0 hn1 w17).mono ?_
    rintro e wc1 ⟨s_pwc1, a_pwc1, n_pwc1, c_pwc1, rfl, pwc1, hkeep⟩
    have hB := hB.trans (hkeep.mono hB.size)
    have k_pwc1 : n_pwc1 ≤ 64 := by rw [pwc1.dig.len]; exact small_fit (by omega)
    go_wp2_with fail
    refine (of_any m hm0 hm1 wc1).mono ?_
    rintro e wc2 ⟨s_pwc2, a_pwc2, n_pwc2, c_pwc2, rfl, pwc2, hkeep⟩
    have hB := hB.trans (hkeep.mono hB.size)
    have pwc1 := pwc1.below hkeep
    have k_pwc2 : n_pwc2 ≤ 64 := by rw [pwc2.dig.len]; exact small_fit (by omega)
    go_wp2_with fail
    refine (cmp_any s_pwc1 s_pwc2 a_pwc1 a_pwc2 n_pwc1 n_pwc2 c_pwc1 c_pwc2 n m k_pwc1 k_pwc2 wc2 pwc1 pwc2).mono ?_
    rintro e wc3 ⟨rfl, hkeep⟩
    have hB := hB.trans (hkeep.mono hB.size)
    clear pwc1 pwc2
    rw [show cmpZ n m = 1 from HZ.out]
    go_wp2_with fail
    refine (of_any n hn0 hn1 wc3).mono ?_
    rintro e wc4 ⟨s_pwc4, a_pwc4, n_pwc4, c_pwc4, rfl, pwc4, hkeep⟩
    have hB := hB.trans (hkeep.mono hB.size)
    have k_pwc4 : n_pwc4 ≤ 64 := by rw [pwc4.dig.len]; exact small_fit (by omega)
    go_wp2_with fail
    refine (right_yes s_pwc4 a_pwc4 n_pwc4 c_pwc4 n k_pwc4 wc4 pwc4).mono ?_
    rintro e wc5 ⟨rfl, hkeep⟩
    have hB := hB.trans (hkeep.mono hB.size)
    go_wp2
    go_ret
    exact ⟨rfl, hB⟩
end Go.Proofs.YtgeldeeaegnpeaaDoor
