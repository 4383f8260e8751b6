/- The law PlaneVectors, one of three kinds of lists. -/
import Derived.Test.YtcgdedcgncjplaaVVh
namespace Go.Proofs.Ytcgdedcgncjplaa
open Go.RowKit

set_option maxRecDepth 100000 in
set_option maxHeartbeats 16000000 in
theorem vec_none  (m1 m2 m3 n1 n2 n3 : Int) (h1 : Hid (I64 m1)) (h2 : Hid (I64 m2)) (h3 : Hid (I64 m3)) (w : World) (hl : Lst w none 0 w.heap.size) : Calls Try.prog 3 #[V m1 m2 m3, V n1 n2 n3, .slice none 0 0] w (Gives w (.bool true)) := by
  unfold V
  go_enter Try.func3, Try.ntmps3
  have hB := Below.refl w.heap.size w
  go_wp2_with fail
  refine (sanity_true _).mono ?_
  rintro e W1 ⟨rfl, hk⟩
  have hs : Below w.heap.size w W1 := Below.trans (by repeat (first | exact Below.refl _ _ | refine Below.alloc ?_ (by first | omega | (simp; try omega)) _ | refine Below.setCell ?_ (by first | omega | (simp; try omega)) _)) (hk.mono (by first | omega | (simp; try omega)))
  have hl := hl.below hs
  have v0 : Var W1 (w.heap.size) [.int .i64 m1, .int .i64 m2, .int .i64 m3] := Var.low ⟨by first | omega | (simp; try omega), by simp [Cel, go_sem]⟩ hk (by first | omega | (simp; try omega))
  have v1 : Var W1 (w.heap.size + 1) [.int .i64 n1, .int .i64 n2, .int .i64 n3] := Var.low ⟨by first | omega | (simp; try omega), by simp [Cel, go_sem]⟩ hk (by first | omega | (simp; try omega))
  obtain ⟨b1, hb1⟩ : ∃ b, w.heap.size + 1 = b := ⟨_, rfl⟩
  have lob1 : w.heap.size ≤ b1 := by have := hB.size; omega
  obtain ⟨b0, hb0⟩ : ∃ b, w.heap.size = b := ⟨_, rfl⟩
  have lob0 : w.heap.size ≤ b0 := by have := hB.size; omega
  rw [hb1] at v1
  try rw [hb1]
  rw [hb0] at v0
  try rw [hb0]
  have hB := hB.trans (hs.mono hB.size)
  clear hb0 hb1 hs hk
  go_wp2_with fail
  refine (points_r none 0 0 2 (by omega) (by decide) (by decide) _ (hl.mono hB.size (by omega))).mono ?_
  rintro e W2 ⟨g, c, xs, rfl, hxl, hxb, hv, hg, hk⟩
  obtain ⟨x0, x1, x2, x3, x4, x5, rfl⟩ := list6 hxl
  replace hv : Var W2 g [.int .i64 x0, .int .i64 x1, .int .i64 x2, .int .i64 x3, .int .i64 x4, .int .i64 x5] := hv
  have hxb := hideV hxb
  clear hxl hg
  have hs := hk
  have v0 := v0.below hs
  have v1 := v1.below hs
  have hl := hl.below hs
  have hB := hB.trans (hs.mono hB.size)
  clear hs hk
  clear hl
  go_wp2_with fail
  refine wp_region_dag (by kernel_rfl) ?_
  intro W3 hk
  have hs := hk
  have v0 := v0.below hs
  have v1 := v1.below hs
  have hv := hv.below hs
  have hB := hB.trans (hs.mono hB.size)
  clear hs hk
  refine dagV (fun _ => trivial) 39 ?hn (fun X => ⟨#[.agg #[.int .i64 m1, .int .i64 m2, .int .i64 m3], .agg #[.int .i64 n1, .int .i64 n2, .int .i64 n3], .slice none 0 0, .pointer (some ⟨b0, 0, none⟩), .pointer (some ⟨b1, 0, none⟩), undef, .bool false, .bool true, .slice (some ⟨g, 0, none⟩) 2 c, undef, undef, undef, undef, undef, undef, .bool true, .slice none 0 0, .slice none 0 0, .int .i64 0, .int .i64 0, .slice none 0 0, .slice (some ⟨g, 0, none⟩) 2 c, X 0, X 1, X 2, X 3, X 4, X 5, X 6, X 7, X 8, X 9, X 10, X 11, X 12, X 13, X 14, X 15, X 16, X 17, X 18, X 19, X 20, X 21, X 22, X 23, X 24, X 25, X 26, X 27, X 28, X 29, X 30, X 31, X 32, X 33, X 34, X 35, X 36, X 37, X 38, undef, undef, undef, undef, undef, undef, undef, undef, undef, undef, undef, undef, undef, undef, undef, undef, undef, undef, undef, undef, undef, undef, undef, undef, undef, undef, undef, undef, undef, undef, undef, undef, undef, undef, undef, undef, undef, undef, undef, undef, undef, undef, undef, undef, undef, undef, undef, undef, undef, undef, undef, undef, undef, undef, undef, undef, undef, undef, undef, undef, undef, undef, undef, undef, undef, undef, undef, undef, undef], []⟩) [(0, 0, 0), (0, 0, 0), (0, 0, 0), (0, 0, 0), (0, 0, 0), (0, 0, 0), (0, 0, 0), (0, 0, 0), (0, 0, 0), (0, 0, 0), (0, 0, 0), (0, 0, 0), (0, 0, 0), (0, 0, 0), (0, 0, 0), (0, 0, 0), (0, 0, 0), (0, 0, 0), (0, 0, 0), (0, 0, 0), (0, 0, 0), (0, 0, 0), (0, 0, 0), (0, 0, 0), (0, 0, 0), (0, 0, 0), (0, 0, 0), (0, 0, 0), (0, 0, 0), (0, 0, 0), (0, 0, 0), (0, 0, 0), (0, 0, 0), (0, 0, 0), (0, 0, 0), (0, 0, 0), (0, 0, 0), (0, 0, 0), (0, 0, 0)] (fun _ => []) [.val (.agg #[.int .i64 m1, .int .i64 m2, .int .i64 m3]), .val (.agg #[.int .i64 n1, .int .i64 n2, .int .i64 n3]), .val (.agg #[.int .i64 m1, .int .i64 m2, .int .i64 m3, .int .i64 n1, .int .i64 n2, .int .i64 n3]), .val (.pointer (some ⟨b0, 0, none⟩)), .val (.int .i64 m1), .val (.int .i64 (m1.tmod 50)), .val (.pointer (some ⟨b0, 1, none⟩)), .val (.int .i64 m2), .val (.int .i64 (m2.tmod 50)), .val (.pointer (some ⟨b0, 2, none⟩)), .val (.int .i64 m3), .val (.int .i64 (m3.tmod 50)), .val (.agg #[.int .i64 (m1.tmod 50), .int .i64 (m2.tmod 50), .int .i64 (m3.tmod 50)]), .val (.pointer (some ⟨b1, 0, none⟩)), .val (.int .i64 n1), .val (.int .i64 (n1.tmod 50)), .val (.pointer (some ⟨b1, 1, none⟩)), .val (.int .i64 n2), .val (.int .i64 (n2.tmod 50)), .val (.pointer (some ⟨b1, 2, none⟩)), .val (.int .i64 n3), .val (.int .i64 (n3.tmod 50)), .val (.agg #[.int .i64 (n1.tmod 50), .int .i64 (n2.tmod 50), .int .i64 (n3.tmod 50)]), .val (.agg #[.int .i64 (m1.tmod 50), .int .i64 (m2.tmod 50), .int .i64 (m3.tmod 50), .int .i64 (n1.tmod 50), .int .i64 (n2.tmod 50), .int .i64 (n3.tmod 50)]), .val (.slice (some ⟨g, 0, none⟩) 2 c), .val (.pointer (some ⟨g, 0, none⟩)), .val (.agg #[.int .i64 x0, .int .i64 x1, .int .i64 x2]), .val (.slice (some ⟨g, 0, none⟩) 2 c), .val (.pointer (some ⟨g, 3, none⟩)), .val (.agg #[.int .i64 x3, .int .i64 x4, .int .i64 x5]), .val (.agg #[.int .i64 x0, .int .i64 x1, .int .i64 x2, .int .i64 x3, .int .i64 x4, .int .i64 x5]), .val (.slice (some ⟨g, 0, none⟩) 2 c), .val (.pointer (some ⟨g, 0, none⟩)), .val (.agg #[.int .i64 x0, .int .i64 x1, .int .i64 x2]), .val (.agg #[.int .i64 n1, .int .i64 n2, .int .i64 n3]), .val (.agg #[.int .i64 x0, .int .i64 x1, .int .i64 x2, .int .i64 n1, .int .i64 n2, .int .i64 n3]), .sl 4 [.int .i64 m1, .int .i64 m2, .int .i64 m3, .int .i64 n1, .int .i64 n2, .int .i64 n3, .int .i64 (m1.tmod 50), .int .i64 (m2.tmod 50), .int .i64 (m3.tmod 50), .int .i64 (n1.tmod 50), .int .i64 (n2.tmod 50), .int .i64 (n3.tmod 50), .int .i64 x0, .int .i64 x1, .int .i64 x2, .int .i64 x3, .int .i64 x4, .int .i64 x5, .int .i64 x0, .int .i64 x1, .int .i64 x2, .int .i64 n1, .int .i64 n2, .int .i64 n3], .val (.int .i64 4), .val (.int .i64 0)] [[], [], [0, 1], [], [3], [4], [], [6], [7], [], [9], [10], [5, 8, 11], [], [13], [14], [], [16], [17], [], [19], [20], [15, 18, 21], [12, 22], [], [24], [25], [], [27], [28], [26, 29], [], [31], [32], [], [33, 34], [2, 23, 30, 35], [36], []] [0, 1, 2, 3, 4, 5, 6, 7, 8, 9, 10, 11, 12, 13, 14, 15, 16, 17, 18, 19, 20, 21, 22, 23, 24, 25, 26, 27, 28, 29, 30, 31, 32, 33, 34, 35, 36, 37, 38] [] [] [] (fun _ => 0) W3 (by kernel_rfl) (by kernel_rfl) (by kernel_rfl) (by kernel_rfl) (by kernel_rfl) ?dist ?olds ?op ?al ?st ?into ?fin (fun _ => undef) _ _ (by kernel_rfl) (of_decide_eq_true (by kernel_rfl)) (of_decide_eq_true (by kernel_rfl))
  case hn => rfl
  case dist => intro i hi j hj; simp at hi hj; try omega
  case olds => exact nofun
  case op =>
    repeat' first | exact Each.nil | refine Each.cons ?_ ?_
    all_goals intro X w7 H hb hD h
    · have hv := v0.below (show Keep [] _ _ from hb).nil
      have c0_ := hv.at 0 rfl
      have c1_ := hv.at 1 rfl
      have c2_ := hv.at 2 rfl
      refine tv rfl (by rfl) ?_ (by exact h _ w7 rfl (Below.refl _ _))
      go_simp <;> first | rfl | (simp only [IntWalk.i64_left]; rfl) | (simp only [IntWalk.i64_left, *]; done) | (simp only [IntWalk.i64_left, *]; rfl)
    · have hv := v1.below (show Keep [] _ _ from hb).nil
      have c0_ := hv.at 0 rfl
      have c1_ := hv.at 1 rfl
      have c2_ := hv.at 2 rfl
      refine tv rfl (by rfl) ?_ (by exact h _ w7 rfl (Below.refl _ _))
      go_simp <;> first | rfl | (simp only [IntWalk.i64_left]; rfl) | (simp only [IntWalk.i64_left, *]; done) | (simp only [IntWalk.i64_left, *]; rfl)
    · have e0_ : X 0 = _ := hD 0 (by decide) rfl
      have e1_ : X 1 = _ := hD 1 (by decide) rfl
      refine tv rfl (by simp only [e0_, e1_]; rfl) ?_ (by exact h _ w7 rfl (Below.refl _ _))
      simp only [e0_, e1_]; go_simp <;> first | rfl | (simp only [IntWalk.i64_left]; rfl) | (simp only [IntWalk.i64_left, *]; done) | (simp only [IntWalk.i64_left, *]; rfl)
    · refine tv rfl (by rfl) ?_ (by exact h _ w7 rfl (Below.refl _ _))
      go_simp <;> first | rfl | (simp only [IntWalk.i64_left]; rfl) | (simp only [IntWalk.i64_left, *]; done) | (simp only [IntWalk.i64_left, *]; rfl)
    · have e3_ : X 3 = _ := hD 3 (by decide) rfl
      have hv := v0.below (show Keep [] _ _ from hb).nil
      have c0_ := hv.at 0 rfl
      refine tv rfl (by simp only [e3_]; rfl) ?_ (by exact h _ w7 rfl (Below.refl _ _))
      simp only [e3_]; go_simp <;> first | rfl | (simp only [IntWalk.i64_left]; rfl) | (simp only [IntWalk.i64_left, *]; done) | (simp only [IntWalk.i64_left, *]; rfl)
    · have e4_ : X 4 = _ := hD 4 (by decide) rfl
      refine tv rfl (by simp only [e4_]; rfl) ?_ (by exact h _ w7 rfl (Below.refl _ _))
      simp only [e4_]; go_simp <;> first | rfl | (simp only [IntWalk.i64_left]; rfl) | (simp only [IntWalk.i64_left, *]; done) | (simp only [IntWalk.i64_left, *]; rfl)
    · refine tv rfl (by rfl) ?_ (by exact h _ w7 rfl (Below.refl _ _))
      go_simp <;> first | rfl | (simp only [IntWalk.i64_left]; rfl) | (simp only [IntWalk.i64_left, *]; done) | (simp only [IntWalk.i64_left, *]; rfl)
    · have e6_ : X 6 = _ := hD 6 (by decide) rfl
      have hv := v0.below (show Keep [] _ _ from hb).nil
      have c0_ := hv.at 1 rfl
      refine tv rfl (by simp only [e6_]; rfl) ?_ (by exact h _ w7 rfl (Below.refl _ _))
      simp only [e6_]; go_simp <;> first | rfl | (simp only [IntWalk.i64_left]; rfl) | (simp only [IntWalk.i64_left, *]; done) | (simp only [IntWalk.i64_left, *]; rfl)
    · have e7_ : X 7 = _ := hD 7 (by decide) rfl
      refine tv rfl (by simp only [e7_]; rfl) ?_ (by exact h _ w7 rfl (Below.refl _ _))
      simp only [e7_]; go_simp <;> first | rfl | (simp only [IntWalk.i64_left]; rfl) | (simp only [IntWalk.i64_left, *]; done) | (simp only [IntWalk.i64_left, *]; rfl)
    · refine tv rfl (by rfl) ?_ (by exact h _ w7 rfl (Below.refl _ _))
      go_simp <;> first | rfl | (simp only [IntWalk.i64_left]; rfl) | (simp only [IntWalk.i64_left, *]; done) | (simp only [IntWalk.i64_left, *]; rfl)
    · have e9_ : X 9 = _ := hD 9 (by decide) rfl
      have hv := v0.below (show Keep [] _ _ from hb).nil
      have c0_ := hv.at 2 rfl
      refine tv rfl (by simp only [e9_]; rfl) ?_ (by exact h _ w7 rfl (Below.refl _ _))
      simp only [e9_]; go_simp <;> first | rfl | (simp only [IntWalk.i64_left]; rfl) | (simp only [IntWalk.i64_left, *]; done) | (simp only [IntWalk.i64_left, *]; rfl)
    · have e10_ : X 10 = _ := hD 10 (by decide) rfl
      refine tv rfl (by simp only [e10_]; rfl) ?_ (by exact h _ w7 rfl (Below.refl _ _))
      simp only [e10_]; go_simp <;> first | rfl | (simp only [IntWalk.i64_left]; rfl) | (simp only [IntWalk.i64_left, *]; done) | (simp only [IntWalk.i64_left, *]; rfl)
    · have e5_ : X 5 = _ := hD 5 (by decide) rfl
      have e8_ : X 8 = _ := hD 8 (by decide) rfl
      have e11_ : X 11 = _ := hD 11 (by decide) rfl
      refine wpOp_call (i := 12) (f := 12) (args := #[.int .i64 (m1.tmod 50), .int .i64 (m2.tmod 50), .int .i64 (m3.tmod 50)]) 34 rfl rfl (by simp only [e5_, e8_, e11_]; rfl) (by simp only [e5_, e8_, e11_]; go_simp) ?_
      refine (vec_l (m1.tmod 50) (m2.tmod 50) (m3.tmod 50) _).mono ?_
      rintro e w8 ⟨rfl, hk⟩
      exact ⟨_, rfl, h _ w8 rfl hk⟩
    · refine tv rfl (by rfl) ?_ (by exact h _ w7 rfl (Below.refl _ _))
      go_simp <;> first | rfl | (simp only [IntWalk.i64_left]; rfl) | (simp only [IntWalk.i64_left, *]; done) | (simp only [IntWalk.i64_left, *]; rfl)
    · have e13_ : X 13 = _ := hD 13 (by decide) rfl
      have hv := v1.below (show Keep [] _ _ from hb).nil
      have c0_ := hv.at 0 rfl
      refine tv rfl (by simp only [e13_]; rfl) ?_ (by exact h _ w7 rfl (Below.refl _ _))
      simp only [e13_]; go_simp <;> first | rfl | (simp only [IntWalk.i64_left]; rfl) | (simp only [IntWalk.i64_left, *]; done) | (simp only [IntWalk.i64_left, *]; rfl)
    · have e14_ : X 14 = _ := hD 14 (by decide) rfl
      refine tv rfl (by simp only [e14_]; rfl) ?_ (by exact h _ w7 rfl (Below.refl _ _))
      simp only [e14_]; go_simp <;> first | rfl | (simp only [IntWalk.i64_left]; rfl) | (simp only [IntWalk.i64_left, *]; done) | (simp only [IntWalk.i64_left, *]; rfl)
    · refine tv rfl (by rfl) ?_ (by exact h _ w7 rfl (Below.refl _ _))
      go_simp <;> first | rfl | (simp only [IntWalk.i64_left]; rfl) | (simp only [IntWalk.i64_left, *]; done) | (simp only [IntWalk.i64_left, *]; rfl)
    · have e16_ : X 16 = _ := hD 16 (by decide) rfl
      have hv := v1.below (show Keep [] _ _ from hb).nil
      have c0_ := hv.at 1 rfl
      refine tv rfl (by simp only [e16_]; rfl) ?_ (by exact h _ w7 rfl (Below.refl _ _))
      simp only [e16_]; go_simp <;> first | rfl | (simp only [IntWalk.i64_left]; rfl) | (simp only [IntWalk.i64_left, *]; done) | (simp only [IntWalk.i64_left, *]; rfl)
    · have e17_ : X 17 = _ := hD 17 (by decide) rfl
      refine tv rfl (by simp only [e17_]; rfl) ?_ (by exact h _ w7 rfl (Below.refl _ _))
      simp only [e17_]; go_simp <;> first | rfl | (simp only [IntWalk.i64_left]; rfl) | (simp only [IntWalk.i64_left, *]; done) | (simp only [IntWalk.i64_left, *]; rfl)
    · refine tv rfl (by rfl) ?_ (by exact h _ w7 rfl (Below.refl _ _))
      go_simp <;> first | rfl | (simp only [IntWalk.i64_left]; rfl) | (simp only [IntWalk.i64_left, *]; done) | (simp only [IntWalk.i64_left, *]; rfl)
    · have e19_ : X 19 = _ := hD 19 (by decide) rfl
      have hv := v1.below (show Keep [] _ _ from hb).nil
      have c0_ := hv.at 2 rfl
      refine tv rfl (by simp only [e19_]; rfl) ?_ (by exact h _ w7 rfl (Below.refl _ _))
      simp only [e19_]; go_simp <;> first | rfl | (simp only [IntWalk.i64_left]; rfl) | (simp only [IntWalk.i64_left, *]; done) | (simp only [IntWalk.i64_left, *]; rfl)
    · have e20_ : X 20 = _ := hD 20 (by decide) rfl
      refine tv rfl (by simp only [e20_]; rfl) ?_ (by exact h _ w7 rfl (Below.refl _ _))
      simp only [e20_]; go_simp <;> first | rfl | (simp only [IntWalk.i64_left]; rfl) | (simp only [IntWalk.i64_left, *]; done) | (simp only [IntWalk.i64_left, *]; rfl)
    · have e15_ : X 15 = _ := hD 15 (by decide) rfl
      have e18_ : X 18 = _ := hD 18 (by decide) rfl
      have e21_ : X 21 = _ := hD 21 (by decide) rfl
      refine wpOp_call (i := 22) (f := 12) (args := #[.int .i64 (n1.tmod 50), .int .i64 (n2.tmod 50), .int .i64 (n3.tmod 50)]) 44 rfl rfl (by simp only [e15_, e18_, e21_]; rfl) (by simp only [e15_, e18_, e21_]; go_simp) ?_
      refine (vec_l (n1.tmod 50) (n2.tmod 50) (n3.tmod 50) _).mono ?_
      rintro e w8 ⟨rfl, hk⟩
      exact ⟨_, rfl, h _ w8 rfl hk⟩
    · have e12_ : X 12 = _ := hD 12 (by decide) rfl
      have e22_ : X 22 = _ := hD 22 (by decide) rfl
      refine tv rfl (by simp only [e12_, e22_]; rfl) ?_ (by exact h _ w7 rfl (Below.refl _ _))
      simp only [e12_, e22_]; go_simp <;> first | rfl | (simp only [IntWalk.i64_left]; rfl) | (simp only [IntWalk.i64_left, *]; done) | (simp only [IntWalk.i64_left, *]; rfl)
    · refine tv rfl (by rfl) ?_ (by exact h _ w7 rfl (Below.refl _ _))
      go_simp <;> first | rfl | (simp only [IntWalk.i64_left]; rfl) | (simp only [IntWalk.i64_left, *]; done) | (simp only [IntWalk.i64_left, *]; rfl)
    · have e24_ : X 24 = _ := hD 24 (by decide) rfl
      refine tv rfl (by simp only [e24_]; rfl) ?_ (by exact h _ w7 rfl (Below.refl _ _))
      simp only [e24_]; go_simp <;> first | rfl | (simp only [IntWalk.i64_left]; rfl) | (simp only [IntWalk.i64_left, *]; done) | (simp only [IntWalk.i64_left, *]; rfl)
    · have e25_ : X 25 = _ := hD 25 (by decide) rfl
      have hv := hv.below (show Keep [] _ _ from hb).nil
      have c0_ := hv.at 0 rfl
      have c1_ := hv.at 1 rfl
      have c2_ := hv.at 2 rfl
      refine tv rfl (by simp only [e25_]; rfl) ?_ (by exact h _ w7 rfl (Below.refl _ _))
      simp only [e25_]; go_simp <;> first | rfl | (simp only [IntWalk.i64_left]; rfl) | (simp only [IntWalk.i64_left, *]; done) | (simp only [IntWalk.i64_left, *]; rfl)
    · refine tv rfl (by rfl) ?_ (by exact h _ w7 rfl (Below.refl _ _))
      go_simp <;> first | rfl | (simp only [IntWalk.i64_left]; rfl) | (simp only [IntWalk.i64_left, *]; done) | (simp only [IntWalk.i64_left, *]; rfl)
    · have e27_ : X 27 = _ := hD 27 (by decide) rfl
      refine tv rfl (by simp only [e27_]; rfl) ?_ (by exact h _ w7 rfl (Below.refl _ _))
      simp only [e27_]; go_simp <;> first | rfl | (simp only [IntWalk.i64_left]; rfl) | (simp only [IntWalk.i64_left, *]; done) | (simp only [IntWalk.i64_left, *]; rfl)
    · have e28_ : X 28 = _ := hD 28 (by decide) rfl
      have hv := hv.below (show Keep [] _ _ from hb).nil
      have c0_ := hv.at 3 rfl
      have c1_ := hv.at 4 rfl
      have c2_ := hv.at 5 rfl
      refine tv rfl (by simp only [e28_]; rfl) ?_ (by exact h _ w7 rfl (Below.refl _ _))
      simp only [e28_]; go_simp <;> first | rfl | (simp only [IntWalk.i64_left]; rfl) | (simp only [IntWalk.i64_left, *]; done) | (simp only [IntWalk.i64_left, *]; rfl)
    · have e26_ : X 26 = _ := hD 26 (by decide) rfl
      have e29_ : X 29 = _ := hD 29 (by decide) rfl
      refine tv rfl (by simp only [e26_, e29_]; rfl) ?_ (by exact h _ w7 rfl (Below.refl _ _))
      simp only [e26_, e29_]; go_simp <;> first | rfl | (simp only [IntWalk.i64_left]; rfl) | (simp only [IntWalk.i64_left, *]; done) | (simp only [IntWalk.i64_left, *]; rfl)
    · refine tv rfl (by rfl) ?_ (by exact h _ w7 rfl (Below.refl _ _))
      go_simp <;> first | rfl | (simp only [IntWalk.i64_left]; rfl) | (simp only [IntWalk.i64_left, *]; done) | (simp only [IntWalk.i64_left, *]; rfl)
    · have e31_ : X 31 = _ := hD 31 (by decide) rfl
      refine tv rfl (by simp only [e31_]; rfl) ?_ (by exact h _ w7 rfl (Below.refl _ _))
      simp only [e31_]; go_simp <;> first | rfl | (simp only [IntWalk.i64_left]; rfl) | (simp only [IntWalk.i64_left, *]; done) | (simp only [IntWalk.i64_left, *]; rfl)
    · have e32_ : X 32 = _ := hD 32 (by decide) rfl
      have hv := hv.below (show Keep [] _ _ from hb).nil
      have c0_ := hv.at 0 rfl
      have c1_ := hv.at 1 rfl
      have c2_ := hv.at 2 rfl
      refine tv rfl (by simp only [e32_]; rfl) ?_ (by exact h _ w7 rfl (Below.refl _ _))
      simp only [e32_]; go_simp <;> first | rfl | (simp only [IntWalk.i64_left]; rfl) | (simp only [IntWalk.i64_left, *]; done) | (simp only [IntWalk.i64_left, *]; rfl)
    · have hv := v1.below (show Keep [] _ _ from hb).nil
      have c0_ := hv.at 0 rfl
      have c1_ := hv.at 1 rfl
      have c2_ := hv.at 2 rfl
      refine tv rfl (by rfl) ?_ (by exact h _ w7 rfl (Below.refl _ _))
      go_simp <;> first | rfl | (simp only [IntWalk.i64_left]; rfl) | (simp only [IntWalk.i64_left, *]; done) | (simp only [IntWalk.i64_left, *]; rfl)
    · have e33_ : X 33 = _ := hD 33 (by decide) rfl
      have e34_ : X 34 = _ := hD 34 (by decide) rfl
      refine tv rfl (by simp only [e33_, e34_]; rfl) ?_ (by exact h _ w7 rfl (Below.refl _ _))
      simp only [e33_, e34_]; go_simp <;> first | rfl | (simp only [IntWalk.i64_left]; rfl) | (simp only [IntWalk.i64_left, *]; done) | (simp only [IntWalk.i64_left, *]; rfl)
    · have e2_ : X 2 = _ := hD 2 (by decide) rfl
      have e23_ : X 23 = _ := hD 23 (by decide) rfl
      have e30_ : X 30 = _ := hD 30 (by decide) rfl
      have e35_ : X 35 = _ := hD 35 (by decide) rfl
      refine wpOp_run rfl ?_
      simp only [e2_, e23_, e30_, e35_]; go_simp
      have h := h _ _ ⟨_, rfl, Var.new w7 [.int .i64 m1, .int .i64 m2, .int .i64 m3, .int .i64 n1, .int .i64 n2, .int .i64 n3, .int .i64 (m1.tmod 50), .int .i64 (m2.tmod 50), .int .i64 (m3.tmod 50), .int .i64 (n1.tmod 50), .int .i64 (n2.tmod 50), .int .i64 (n3.tmod 50), .int .i64 x0, .int .i64 x1, .int .i64 x2, .int .i64 x3, .int .i64 x4, .int .i64 x5, .int .i64 x0, .int .i64 x1, .int .i64 x2, .int .i64 n1, .int .i64 n2, .int .i64 n3] 28⟩ (belowA _ _)
      have u2_ : ∀ v, upd X 36 v 2 = X 2 := fun _ => rfl
      have u23_ : ∀ v, upd X 36 v 23 = X 23 := fun _ => rfl
      have u30_ : ∀ v, upd X 36 v 30 = X 30 := fun _ => rfl
      have u35_ : ∀ v, upd X 36 v 35 = X 35 := fun _ => rfl
      simp only [u2_, u23_, u30_, u35_, e2_, e23_, e30_, e35_] at h
      exact h
    · obtain ⟨b36_, e36_, Q36_⟩ := hD 36 (by decide) rfl
      refine tv rfl (by simp only [e36_]; rfl) ?_ (by exact h _ w7 rfl (Below.refl _ _))
      simp only [e36_]; go_simp <;> first | rfl | (simp only [IntWalk.i64_left]; rfl) | (simp only [IntWalk.i64_left, *]; done) | (simp only [IntWalk.i64_left, *]; rfl)
    · refine tv rfl (by rfl) ?_ (by exact h _ w7 rfl (Below.refl _ _))
      go_simp <;> first | rfl | (simp only [IntWalk.i64_left]; rfl) | (simp only [IntWalk.i64_left, *]; done) | (simp only [IntWalk.i64_left, *]; rfl)
  case al => exact Each.nil
  case st => exact Each.nil
  case into => exact Each.nil
  case fin =>
    intro X3_ W4 hI
    have hE : Keep [] W3 W4 := hI.keep
    obtain ⟨b2, e36_, v2⟩ := hI.fact 36 (by decide) rfl rfl
    have e37_ : X3_ 37 = _ := hI.fact 37 (by decide) rfl rfl
    have e38_ : X3_ 38 = _ := hI.fact 38 (by decide) rfl rfl
    have v0 := v0.below hE.nil
    have v1 := v1.below hE.nil
    have hv := hv.below hE.nil
    have hB := hB.trans (hE.nil.mono hB.size)
    simp only [e36_, e37_, e38_]
    clear e36_ e37_ e38_ hI hE
    clear v0
    clear v1
    clear hv
    go_wp2_with fail
    go_loopw [60] (fun i wr => ∃ k : Nat, k ≤ 4 ∧ i = .int .i64 (k : Int) ∧ Below w.heap.size w wr ∧ Var wr b2 [.int .i64 m1, .int .i64 m2, .int .i64 m3, .int .i64 n1, .int .i64 n2, .int .i64 n3, .int .i64 (m1.tmod 50), .int .i64 (m2.tmod 50), .int .i64 (m3.tmod 50), .int .i64 (n1.tmod 50), .int .i64 (n2.tmod 50), .int .i64 (n3.tmod 50), .int .i64 x0, .int .i64 x1, .int .i64 x2, .int .i64 x3, .int .i64 x4, .int .i64 x5, .int .i64 x0, .int .i64 x1, .int .i64 x2, .int .i64 n1, .int .i64 n2, .int .i64 n3]) (fun i _ => 4 - (intOf i).toNat)
    case atStart => exact ⟨0, by omega, rfl, hB, v2⟩
    case round =>
      clear hB v2
      obtain ⟨k, hk, rfl, hB, v2⟩ := hrel
      by_cases hlt : k < 4
      · have hk4 : (k : Int) < 4 := by omega
        obtain ⟨p1, p2, p3, o1, o2, o3, i1, i2, i3, qq0, qq1, qq2, qq3, qq4, qq5⟩ : ∃ p1 p2 p3 o1 o2 o3 : Int, Hid (I64 p1) ∧ Hid (I64 p2) ∧ Hid (I64 p3) ∧ ([.int .i64 m1, .int .i64 m2, .int .i64 m3, .int .i64 n1, .int .i64 n2, .int .i64 n3, .int .i64 (m1.tmod 50), .int .i64 (m2.tmod 50), .int .i64 (m3.tmod 50), .int .i64 (n1.tmod 50), .int .i64 (n2.tmod 50), .int .i64 (n3.tmod 50), .int .i64 x0, .int .i64 x1, .int .i64 x2, .int .i64 x3, .int .i64 x4, .int .i64 x5, .int .i64 x0, .int .i64 x1, .int .i64 x2, .int .i64 n1, .int .i64 n2, .int .i64 n3] : List Value)[k * 6]? = some (.int .i64 p1) ∧ ([.int .i64 m1, .int .i64 m2, .int .i64 m3, .int .i64 n1, .int .i64 n2, .int .i64 n3, .int .i64 (m1.tmod 50), .int .i64 (m2.tmod 50), .int .i64 (m3.tmod 50), .int .i64 (n1.tmod 50), .int .i64 (n2.tmod 50), .int .i64 (n3.tmod 50), .int .i64 x0, .int .i64 x1, .int .i64 x2, .int .i64 x3, .int .i64 x4, .int .i64 x5, .int .i64 x0, .int .i64 x1, .int .i64 x2, .int .i64 n1, .int .i64 n2, .int .i64 n3] : List Value)[k * 6 + 1]? = some (.int .i64 p2) ∧ ([.int .i64 m1, .int .i64 m2, .int .i64 m3, .int .i64 n1, .int .i64 n2, .int .i64 n3, .int .i64 (m1.tmod 50), .int .i64 (m2.tmod 50), .int .i64 (m3.tmod 50), .int .i64 (n1.tmod 50), .int .i64 (n2.tmod 50), .int .i64 (n3.tmod 50), .int .i64 x0, .int .i64 x1, .int .i64 x2, .int .i64 x3, .int .i64 x4, .int .i64 x5, .int .i64 x0, .int .i64 x1, .int .i64 x2, .int .i64 n1, .int .i64 n2, .int .i64 n3] : List Value)[k * 6 + 2]? = some (.int .i64 p3) ∧ ([.int .i64 m1, .int .i64 m2, .int .i64 m3, .int .i64 n1, .int .i64 n2, .int .i64 n3, .int .i64 (m1.tmod 50), .int .i64 (m2.tmod 50), .int .i64 (m3.tmod 50), .int .i64 (n1.tmod 50), .int .i64 (n2.tmod 50), .int .i64 (n3.tmod 50), .int .i64 x0, .int .i64 x1, .int .i64 x2, .int .i64 x3, .int .i64 x4, .int .i64 x5, .int .i64 x0, .int .i64 x1, .int .i64 x2, .int .i64 n1, .int .i64 n2, .int .i64 n3] : List Value)[k * 6 + 3]? = some (.int .i64 o1) ∧ ([.int .i64 m1, .int .i64 m2, .int .i64 m3, .int .i64 n1, .int .i64 n2, .int .i64 n3, .int .i64 (m1.tmod 50), .int .i64 (m2.tmod 50), .int .i64 (m3.tmod 50), .int .i64 (n1.tmod 50), .int .i64 (n2.tmod 50), .int .i64 (n3.tmod 50), .int .i64 x0, .int .i64 x1, .int .i64 x2, .int .i64 x3, .int .i64 x4, .int .i64 x5, .int .i64 x0, .int .i64 x1, .int .i64 x2, .int .i64 n1, .int .i64 n2, .int .i64 n3] : List Value)[k * 6 + 4]? = some (.int .i64 o2) ∧ ([.int .i64 m1, .int .i64 m2, .int .i64 m3, .int .i64 n1, .int .i64 n2, .int .i64 n3, .int .i64 (m1.tmod 50), .int .i64 (m2.tmod 50), .int .i64 (m3.tmod 50), .int .i64 (n1.tmod 50), .int .i64 (n2.tmod 50), .int .i64 (n3.tmod 50), .int .i64 x0, .int .i64 x1, .int .i64 x2, .int .i64 x3, .int .i64 x4, .int .i64 x5, .int .i64 x0, .int .i64 x1, .int .i64 x2, .int .i64 n1, .int .i64 n2, .int .i64 n3] : List Value)[k * 6 + 5]? = some (.int .i64 o3) := by
          match k, hlt with
          | 0, _ => exact ⟨_, _, _, _, _, _, h1.out, h2.out, h3.out, rfl, rfl, rfl, rfl, rfl, rfl⟩
          | 1, _ => exact ⟨_, _, _, _, _, _, i64_t50 _, i64_t50 _, i64_t50 _, rfl, rfl, rfl, rfl, rfl, rfl⟩
          | 2, _ => exact ⟨_, _, _, _, _, _, (i64_24 (hxb.out x0 (by simp))), (i64_24 (hxb.out x1 (by simp))), (i64_24 (hxb.out x2 (by simp))), rfl, rfl, rfl, rfl, rfl, rfl⟩
          | 3, _ => exact ⟨_, _, _, _, _, _, (i64_24 (hxb.out x0 (by simp))), (i64_24 (hxb.out x1 (by simp))), (i64_24 (hxb.out x2 (by simp))), rfl, rfl, rfl, rfl, rfl, rfl⟩
        have d0 := v2.at (k * 6) qq0
        have d1 := v2.at (k * 6 + 1) qq1
        have d2 := v2.at (k * 6 + 2) qq2
        have d3 := v2.at (k * 6 + 3) qq3
        have d4 := v2.at (k * 6 + 4) qq4
        have d5 := v2.at (k * 6 + 5) qq5
        clear qq0 qq1 qq2 qq3 qq4 qq5
        go_wp2_with fail
        refine wp_region_dag (by kernel_rfl) ?_
        intro W5 hk
        have hs : Below wr.heap.size wr W5 := Below.trans (by repeat (first | exact Below.refl _ _ | refine Below.alloc ?_ (by first | omega | (simp; try omega)) _ | refine Below.setCell ?_ (by first | omega | (simp; try omega)) _)) (hk.mono (by first | omega | (simp; try omega)))
        have v2 := v2.below hs
        have v3 : Var W5 (wr.heap.size) [.int .i64 p1, .int .i64 p2, .int .i64 p3, .int .i64 o1, .int .i64 o2, .int .i64 o3] := Var.low ⟨by first | omega | (simp; try omega), by simp [Cel, go_sem]⟩ hk (by first | omega | (simp; try omega))
        obtain ⟨b3, hb3⟩ : ∃ b, wr.heap.size = b := ⟨_, rfl⟩
        have lob3 : w.heap.size ≤ b3 := by have := hB.size; omega
        rw [hb3] at v3
        try rw [hb3]
        have hB := hB.trans (hs.mono hB.size)
        clear hb3 hs hk
        refine dagV (fun _ => trivial) 8 ?hn (fun X => ⟨#[.agg #[.int .i64 m1, .int .i64 m2, .int .i64 m3], .agg #[.int .i64 n1, .int .i64 n2, .int .i64 n3], .slice none 0 0, .pointer (some ⟨b0, 0, none⟩), .pointer (some ⟨b1, 0, none⟩), undef, u6, .bool true, .slice (some ⟨g, 0, none⟩) 2 c, undef, .pointer (some ⟨b3, 0, none⟩), X 4, X 5, u13, u14, .bool true, .slice none 0 0, .slice none 0 0, .int .i64 0, .int .i64 0, .slice none 0 0, .slice (some ⟨g, 0, none⟩) 2 c, X3_ 0, X3_ 1, X3_ 2, X3_ 3, X3_ 4, X3_ 5, X3_ 6, X3_ 7, X3_ 8, X3_ 9, X3_ 10, X3_ 11, X3_ 12, X3_ 13, X3_ 14, X3_ 15, X3_ 16, X3_ 17, X3_ 18, X3_ 19, X3_ 20, X3_ 21, X3_ 22, X3_ 23, X3_ 24, X3_ 25, X3_ 26, X3_ 27, X3_ 28, X3_ 29, X3_ 30, X3_ 31, X3_ 32, X3_ 33, X3_ 34, X3_ 35, .slice (some ⟨b2, 0, none⟩) 4 4, .int .i64 4, .int .i64 (k : Int), .bool true, .pointer (some ⟨b2, k * 6, none⟩), .agg #[.int .i64 p1, .int .i64 p2, .int .i64 p3, .int .i64 o1, .int .i64 o2, .int .i64 o3], X 0, X 1, X 2, X 3, u68, u69, u70, u71, u72, u73, u74, u75, u76, u77, u78, u79, u80, u81, u82, u83, u84, u85, u86, u87, u88, u89, u90, u91, u92, u93, u94, u95, u96, u97, u98, u99, u100, u101, u102, u103, u104, u105, u106, u107, u108, u109, u110, u111, u112, u113, u114, u115, u116, u117, u118, u119, u120, u121, u122, u123, u124, u125, u126, u127, u128, undef], []⟩) [(0, 0, 0), (0, 0, 0), (0, 0, 0), (0, 0, 0), (1, 6, 1), (1, 7, 3), (3, 4, 1), (3, 5, 3)] (fun i => ([[], [], [], [], [.int .i64 0, .int .i64 0, .int .i64 0], [.int .i64 0, .int .i64 0, .int .i64 0], [], []] : List (List Value)).getD i []) [.val (.pointer (some ⟨b3, 0, none⟩)), .val (.agg #[.int .i64 p1, .int .i64 p2, .int .i64 p3]), .val (.pointer (some ⟨b3, 3, none⟩)), .val (.agg #[.int .i64 o1, .int .i64 o2, .int .i64 o3]), .none, .none, .none, .none] [[], [0], [], [2], [], [], [1, 4], [3, 5]] [0, 1, 2, 3] [4, 5] [6, 7] [] (fun i => ([0, 0, 0, 0, 23, 23, 0, 0] : List TypeId).getD i 0) W5 (by kernel_rfl) (by kernel_rfl) (by kernel_rfl) (by kernel_rfl) (by kernel_rfl) ?dist ?olds ?op ?al ?st ?into ?fin (upd (upd (upd (upd (upd (upd (fun _ => undef) 0 (u64)) 1 (u65)) 2 (u66)) 3 (u67)) 4 (u11)) 5 (u12)) _ _ (by kernel_rfl) (of_decide_eq_true (by kernel_rfl)) (of_decide_eq_true (by kernel_rfl))
        case hn => rfl
        case dist => intro i hi j hj; simp at hi hj; try omega
        case olds => exact nofun
        case op =>
          repeat' first | exact Each.nil | refine Each.cons ?_ ?_
          all_goals intro X w7 H hb hD h
          · refine tv rfl (by rfl) ?_ (by exact h _ w7 rfl (Below.refl _ _))
            go_simp <;> first | rfl | (simp only [IntWalk.i64_left]; rfl) | (simp only [IntWalk.i64_left, *]; done) | (simp only [IntWalk.i64_left, *]; rfl)
          · have e0_ : X 0 = _ := hD 0 (by decide) rfl
            have hv := v3.below (show Keep [] _ _ from hb).nil
            have c0_ := hv.at 0 rfl
            have c1_ := hv.at 1 rfl
            have c2_ := hv.at 2 rfl
            refine tv rfl (by simp only [e0_]; rfl) ?_ (by exact h _ w7 rfl (Below.refl _ _))
            simp only [e0_]; go_simp <;> first | rfl | (simp only [IntWalk.i64_left]; rfl) | (simp only [IntWalk.i64_left, *]; done) | (simp only [IntWalk.i64_left, *]; rfl)
          · refine tv rfl (by rfl) ?_ (by exact h _ w7 rfl (Below.refl _ _))
            go_simp <;> first | rfl | (simp only [IntWalk.i64_left]; rfl) | (simp only [IntWalk.i64_left, *]; done) | (simp only [IntWalk.i64_left, *]; rfl)
          · have e2_ : X 2 = _ := hD 2 (by decide) rfl
            have hv := v3.below (show Keep [] _ _ from hb).nil
            have c0_ := hv.at 3 rfl
            have c1_ := hv.at 4 rfl
            have c2_ := hv.at 5 rfl
            refine tv rfl (by simp only [e2_]; rfl) ?_ (by exact h _ w7 rfl (Below.refl _ _))
            simp only [e2_]; go_simp <;> first | rfl | (simp only [IntWalk.i64_left]; rfl) | (simp only [IntWalk.i64_left, *]; done) | (simp only [IntWalk.i64_left, *]; rfl)
        case al =>
          repeat' first | exact Each.nil | refine Each.cons ?_ ?_
          all_goals exact fun X w7 H h => wpOp_run rfl (by go_simp; exact h)
        case st =>
          repeat' first | exact Each.nil | refine Each.cons ?_ ?_
          all_goals intro X w7 H b hX hC hG h
          · replace hX : X 4 = .pointer (some ⟨b, 0, none⟩) := hX
            have e : X 1 = _ := hG
            have c0_ := hC.at 0 rfl
            have z0_ := hC.fr 0 (by decide)
            have c1_ := hC.at 1 rfl
            have z1_ := hC.fr 1 (by decide)
            have c2_ := hC.at 2 rfl
            have z2_ := hC.fr 2 (by decide)
            refine wpOp_run rfl ?_
            have h := h (by show _ = (vc (X 1)).length; rw [e]; rfl)
            simp only [hX] at h ⊢
            replace h : H _ (putC b w7 0 (vc (X 1))) := h
            simp only [e] at h ⊢
            go_simp
            exact h
          · replace hX : X 5 = .pointer (some ⟨b, 0, none⟩) := hX
            have e : X 3 = _ := hG
            have c0_ := hC.at 0 rfl
            have z0_ := hC.fr 0 (by decide)
            have c1_ := hC.at 1 rfl
            have z1_ := hC.fr 1 (by decide)
            have c2_ := hC.at 2 rfl
            have z2_ := hC.fr 2 (by decide)
            refine wpOp_run rfl ?_
            have h := h (by show _ = (vc (X 3)).length; rw [e]; rfl)
            simp only [hX] at h ⊢
            replace h : H _ (putC b w7 0 (vc (X 3))) := h
            simp only [e] at h ⊢
            go_simp
            exact h
        case into => exact Each.nil
        case fin =>
          intro X6_ W6 hI
          have hE : Keep [] W5 W6 := hI.keep
          have e1_ : X6_ 1 = _ := hI.fact 1 (by decide) rfl rfl
          have e3_ : X6_ 3 = _ := hI.fact 3 (by decide) rfl rfl
          obtain ⟨b4, e4_, lob4, v4⟩ := hI.box 4 (by decide) rfl (by decide)
          replace v4 : Var W6 b4 (vc (X6_ 1)) := v4
          rw [e1_] at v4
          replace v4 : Var W6 b4 [.int .i64 p1, .int .i64 p2, .int .i64 p3] := v4
          replace lob4 : w.heap.size ≤ b4 := Nat.le_trans hB.size lob4
          obtain ⟨b5, e5_, lob5, v5⟩ := hI.box 5 (by decide) rfl (by decide)
          replace v5 : Var W6 b5 (vc (X6_ 3)) := v5
          rw [e3_] at v5
          replace v5 : Var W6 b5 [.int .i64 o1, .int .i64 o2, .int .i64 o3] := v5
          replace lob5 : w.heap.size ≤ b5 := Nat.le_trans hB.size lob5
          have v2 := v2.below hE.nil
          have v3 := v3.below hE.nil
          have hB := hB.trans (hE.nil.mono hB.size)
          simp only [e1_, e3_, e4_, e5_]
          clear e1_ e3_ e4_ e5_ hI hE
          clear d0 d1 d2 d3 d4 d5
          go_wp2_with fail
          refine wp_region_dag (by kernel_rfl) ?_
          intro W7 hk
          have hs := hk
          have v2 := v2.below hs
          have v3 := v3.below hs
          have v4 := v4.below hs
          have v5 := v5.below hs
          have hB := hB.trans (hs.mono hB.size)
          clear hs hk
          refine dagV (fun _ => trivial) 50 ?hn (fun X => ⟨#[.agg #[.int .i64 m1, .int .i64 m2, .int .i64 m3], .agg #[.int .i64 n1, .int .i64 n2, .int .i64 n3], .slice none 0 0, .pointer (some ⟨b0, 0, none⟩), .pointer (some ⟨b1, 0, none⟩), undef, u6, .bool true, .slice (some ⟨g, 0, none⟩) 2 c, undef, .pointer (some ⟨b3, 0, none⟩), .pointer (some ⟨b4, 0, none⟩), .pointer (some ⟨b5, 0, none⟩), u13, u14, .bool true, .slice none 0 0, .slice none 0 0, .int .i64 0, .int .i64 0, .slice none 0 0, .slice (some ⟨g, 0, none⟩) 2 c, X3_ 0, X3_ 1, X3_ 2, X3_ 3, X3_ 4, X3_ 5, X3_ 6, X3_ 7, X3_ 8, X3_ 9, X3_ 10, X3_ 11, X3_ 12, X3_ 13, X3_ 14, X3_ 15, X3_ 16, X3_ 17, X3_ 18, X3_ 19, X3_ 20, X3_ 21, X3_ 22, X3_ 23, X3_ 24, X3_ 25, X3_ 26, X3_ 27, X3_ 28, X3_ 29, X3_ 30, X3_ 31, X3_ 32, X3_ 33, X3_ 34, X3_ 35, .slice (some ⟨b2, 0, none⟩) 4 4, .int .i64 4, .int .i64 (k : Int), .bool true, .pointer (some ⟨b2, k * 6, none⟩), .agg #[.int .i64 p1, .int .i64 p2, .int .i64 p3, .int .i64 o1, .int .i64 o2, .int .i64 o3], X6_ 0, .agg #[.int .i64 p1, .int .i64 p2, .int .i64 p3], X6_ 2, .agg #[.int .i64 o1, .int .i64 o2, .int .i64 o3], X 0, X 1, X 2, X 3, X 4, X 5, X 6, X 7, X 8, X 9, X 10, X 11, X 12, X 13, X 14, X 15, X 16, X 17, X 18, X 19, X 20, X 21, X 22, X 23, X 24, X 25, X 26, X 27, X 28, X 29, X 30, X 31, X 32, X 33, X 34, X 35, X 36, X 37, X 38, X 39, X 40, X 41, X 42, X 43, X 44, X 45, X 46, X 47, X 48, X 49, u118, u119, u120, u121, u122, u123, u124, u125, u126, u127, u128, undef], []⟩) [(0, 0, 0), (0, 0, 0), (0, 0, 0), (0, 0, 0), (0, 0, 0), (0, 0, 0), (0, 0, 0), (0, 0, 0), (0, 0, 0), (0, 0, 0), (0, 0, 0), (0, 0, 0), (0, 0, 0), (0, 0, 0), (0, 0, 0), (0, 0, 0), (0, 0, 0), (0, 0, 0), (0, 0, 0), (0, 0, 0), (0, 0, 0), (0, 0, 0), (0, 0, 0), (0, 0, 0), (0, 0, 0), (0, 0, 0), (0, 0, 0), (0, 0, 0), (0, 0, 0), (0, 0, 0), (0, 0, 0), (0, 0, 0), (0, 0, 0), (0, 0, 0), (0, 0, 0), (0, 0, 0), (0, 0, 0), (0, 0, 0), (0, 0, 0), (0, 0, 0), (0, 0, 0), (0, 0, 0), (0, 0, 0), (0, 0, 0), (0, 0, 0), (0, 0, 0), (0, 0, 0), (0, 0, 0), (0, 0, 0), (0, 0, 0)] (fun _ => []) [.val (.agg #[.int .i64 p1, .int .i64 p2, .int .i64 p3]), .val (.bool (in3 24 p1 p2 p3)), .val (.agg #[.int .i64 p1, .int .i64 p2, .int .i64 p3]), .val (.bool (in3 24 p1 p2 p3)), .val (.bool false), .val (.bool false), .val (.agg #[.int .i64 p1, .int .i64 p2, .int .i64 p3]), .val (.agg #[.int .i64 o1, .int .i64 o2, .int .i64 o3]), .val (.agg #[.int .i64 (wrap64 (p1 + o1)), .int .i64 (wrap64 (p2 + o2)), .int .i64 (wrap64 (p3 + o3))]), .val (.agg #[.int .i64 p1, .int .i64 p2, .int .i64 p3]), .val (.agg #[.int .i64 o1, .int .i64 o2, .int .i64 o3]), .val (.agg #[.int .i64 (wrap64 (p1 + o1)), .int .i64 (wrap64 (p2 + o2)), .int .i64 (wrap64 (p3 + o3))]), .val (.bool false), .val (.bool false), .val (.bool false), .val (.agg #[.int .i64 p1, .int .i64 p2, .int .i64 p3]), .val (.agg #[.int .i64 o1, .int .i64 o2, .int .i64 o3]), .val (.agg #[.int .i64 (wrap64 (p1 - o1)), .int .i64 (wrap64 (p2 - o2)), .int .i64 (wrap64 (p3 - o3))]), .val (.agg #[.int .i64 p1, .int .i64 p2, .int .i64 p3]), .val (.agg #[.int .i64 o1, .int .i64 o2, .int .i64 o3]), .val (.agg #[.int .i64 (wrap64 (p1 - o1)), .int .i64 (wrap64 (p2 - o2)), .int .i64 (wrap64 (p3 - o3))]), .val (.bool false), .val (.bool false), .val (.bool false), .val (.agg #[.int .i64 p1, .int .i64 p2, .int .i64 p3]), .val (.agg #[.int .i64 o1, .int .i64 o2, .int .i64 o3]), .val (.int .i64 (dt p1 p2 p3 o1 o2 o3)), .val (.agg #[.int .i64 p1, .int .i64 p2, .int .i64 p3]), .val (.agg #[.int .i64 o1, .int .i64 o2, .int .i64 o3]), .val (.int .i64 (dt p1 p2 p3 o1 o2 o3)), .val (.bool false), .val (.bool false), .val (.bool false), .val (.agg #[.int .i64 p1, .int .i64 p2, .int .i64 p3]), .val (.agg #[.int .i64 o1, .int .i64 o2, .int .i64 o3]), .val (.agg #[.int .i64 (crx p1 p2 p3 o1 o2 o3), .int .i64 (cry p1 p2 p3 o1 o2 o3), .int .i64 (crz p1 p2 p3 o1 o2 o3)]), .val (.agg #[.int .i64 p1, .int .i64 p2, .int .i64 p3]), .val (.agg #[.int .i64 o1, .int .i64 o2, .int .i64 o3]), .val (.agg #[.int .i64 (crx p1 p2 p3 o1 o2 o3), .int .i64 (cry p1 p2 p3 o1 o2 o3), .int .i64 (crz p1 p2 p3 o1 o2 o3)]), .val (.bool false), .val (.bool false), .val (.bool false), .val (.agg #[.int .i64 p1, .int .i64 p2, .int .i64 p3]), .val (.agg #[.int .i64 o1, .int .i64 o2, .int .i64 o3]), .val (.int .i64 (rch p1 p2 p3 o1 o2 o3)), .val (.agg #[.int .i64 p1, .int .i64 p2, .int .i64 p3]), .val (.agg #[.int .i64 o1, .int .i64 o2, .int .i64 o3]), .val (.int .i64 (rch p1 p2 p3 o1 o2 o3)), .val (.bool false), .val (.bool false)] [[], [0], [], [2], [1, 3], [4], [5], [5], [5, 6, 7], [5], [5], [5, 9, 10], [5, 8, 11], [5, 12], [13], [14], [14], [14, 15, 16], [14], [14], [14, 18, 19], [14, 17, 20], [14, 21], [22], [23], [23], [23, 24, 25], [23], [23], [23, 27, 28], [23, 26, 29], [23, 30], [31], [32], [32], [32, 33, 34], [32], [32], [32, 36, 37], [32, 35, 38], [32, 39], [40], [41], [41], [41, 42, 43], [41], [41], [41, 45, 46], [41, 44, 47], [41, 48]] [0, 1, 2, 3, 4, 5, 6, 7, 8, 9, 10, 11, 12, 13, 14, 15, 16, 17, 18, 19, 20, 21, 22, 23, 24, 25, 26, 27, 28, 29, 30, 31, 32, 33, 34, 35, 36, 37, 38, 39, 40, 41, 42, 43, 44, 45, 46, 47, 48, 49] [] [] [] (fun _ => 0) W7 (by kernel_rfl) (by kernel_rfl) (by kernel_rfl) (by kernel_rfl) (by kernel_rfl) ?dist ?olds ?op ?al ?st ?into ?fin (upd (upd (upd (upd (upd (upd (upd (upd (upd (upd (upd (upd (upd (upd (upd (upd (upd (upd (upd (upd (upd (upd (upd (upd (upd (upd (upd (upd (upd (upd (upd (upd (upd (upd (upd (upd (upd (upd (upd (upd (upd (upd (upd (upd (upd (upd (upd (upd (upd (upd (fun _ => undef) 0 (u68)) 1 (u69)) 2 (u70)) 3 (u71)) 4 (u72)) 5 (u73)) 6 (u74)) 7 (u75)) 8 (u76)) 9 (u77)) 10 (u78)) 11 (u79)) 12 (u80)) 13 (u81)) 14 (u82)) 15 (u83)) 16 (u84)) 17 (u85)) 18 (u86)) 19 (u87)) 20 (u88)) 21 (u89)) 22 (u90)) 23 (u91)) 24 (u92)) 25 (u93)) 26 (u94)) 27 (u95)) 28 (u96)) 29 (u97)) 30 (u98)) 31 (u99)) 32 (u100)) 33 (u101)) 34 (u102)) 35 (u103)) 36 (u104)) 37 (u105)) 38 (u106)) 39 (u107)) 40 (u108)) 41 (u109)) 42 (u110)) 43 (u111)) 44 (u112)) 45 (u113)) 46 (u114)) 47 (u115)) 48 (u116)) 49 (u117)) _ _ (by kernel_rfl) (of_decide_eq_true (by kernel_rfl)) (of_decide_eq_true (by kernel_rfl))
          case hn => rfl
          case dist => intro i hi j hj; simp at hi hj; try omega
          case olds => exact nofun
          case op =>
            repeat' first | exact Each.nil | refine Each.cons ?_ ?_
            all_goals intro X w7 H hb hD h
            · have hv := v4.below (show Keep [] _ _ from hb).nil
              have c0_ := hv.at 0 rfl
              have c1_ := hv.at 1 rfl
              have c2_ := hv.at 2 rfl
              refine tv rfl (by rfl) ?_ (by exact h _ w7 rfl (Below.refl _ _))
              go_simp <;> first | rfl | (simp only [IntWalk.i64_left]; rfl) | (simp only [IntWalk.i64_left, *]; done) | (simp only [IntWalk.i64_left, *]; rfl)
            · have e0_ : X 0 = _ := hD 0 (by decide) rfl
              refine wpOp_call (i := 1) (f := 13) (args := #[.agg #[.int .i64 p1, .int .i64 p2, .int .i64 p3]]) 69 rfl rfl (by simp only [e0_]; rfl) (by simp only [e0_]; go_simp) ?_
              refine (in_p p1 p2 p3 _).mono ?_
              rintro e w8 ⟨rfl, hk⟩
              exact ⟨_, rfl, h _ w8 rfl hk⟩
            · have hv := v4.below (show Keep [] _ _ from hb).nil
              have c0_ := hv.at 0 rfl
              have c1_ := hv.at 1 rfl
              have c2_ := hv.at 2 rfl
              refine tv rfl (by rfl) ?_ (by exact h _ w7 rfl (Below.refl _ _))
              go_simp <;> first | rfl | (simp only [IntWalk.i64_left]; rfl) | (simp only [IntWalk.i64_left, *]; done) | (simp only [IntWalk.i64_left, *]; rfl)
            · have e2_ : X 2 = _ := hD 2 (by decide) rfl
              refine wpOp_call (i := 3) (f := 14) (args := #[.agg #[.int .i64 p1, .int .i64 p2, .int .i64 p3]]) 71 rfl rfl (by simp only [e2_]; rfl) (by simp only [e2_]; go_simp) ?_
              refine (in_r p1 p2 p3 _).mono ?_
              rintro e w8 ⟨rfl, hk⟩
              exact ⟨_, rfl, h _ w8 rfl hk⟩
            · have e1_ : X 1 = _ := hD 1 (by decide) rfl
              have e3_ : X 3 = _ := hD 3 (by decide) rfl
              refine tv rfl (by simp only [e1_, e3_]; rfl) ?_ (by exact h _ w7 rfl (Below.refl _ _))
              simp only [e1_, e3_]; go_simp <;> first | rfl | (simp only [IntWalk.i64_left]; rfl) | (simp only [IntWalk.i64_left, *]; done) | (simp only [IntWalk.i64_left, *]; rfl)
            · have e4_ : X 4 = _ := hD 4 (by decide) rfl
              refine tv rfl (by simp only [e4_]; rfl) ?_ (by exact h _ w7 rfl (Below.refl _ _))
              simp only [e4_]; go_simp <;> first | rfl | (simp only [IntWalk.i64_left]; rfl) | (simp only [IntWalk.i64_left, *]; done) | (simp only [IntWalk.i64_left, *]; rfl)
            · have e5_ : X 5 = _ := hD 5 (by decide) rfl
              have hv := v4.below (show Keep [] _ _ from hb).nil
              have c0_ := hv.at 0 rfl
              have c1_ := hv.at 1 rfl
              have c2_ := hv.at 2 rfl
              refine tv rfl (by simp only [e5_]; rfl) ?_ (by exact h _ w7 rfl (Below.refl _ _))
              simp only [e5_]; go_simp <;> first | rfl | (simp only [IntWalk.i64_left]; rfl) | (simp only [IntWalk.i64_left, *]; done) | (simp only [IntWalk.i64_left, *]; rfl)
            · have e5_ : X 5 = _ := hD 5 (by decide) rfl
              have hv := v5.below (show Keep [] _ _ from hb).nil
              have c0_ := hv.at 0 rfl
              have c1_ := hv.at 1 rfl
              have c2_ := hv.at 2 rfl
              refine tv rfl (by simp only [e5_]; rfl) ?_ (by exact h _ w7 rfl (Below.refl _ _))
              simp only [e5_]; go_simp <;> first | rfl | (simp only [IntWalk.i64_left]; rfl) | (simp only [IntWalk.i64_left, *]; done) | (simp only [IntWalk.i64_left, *]; rfl)
            · have e5_ : X 5 = _ := hD 5 (by decide) rfl
              have e6_ : X 6 = _ := hD 6 (by decide) rfl
              have e7_ : X 7 = _ := hD 7 (by decide) rfl
              refine wpOp_call (i := 8) (f := 15) (args := #[.agg #[.int .i64 p1, .int .i64 p2, .int .i64 p3], .agg #[.int .i64 o1, .int .i64 o2, .int .i64 o3]]) 76 rfl rfl (by simp only [e5_, e6_, e7_]; rfl) (by simp only [e5_, e6_, e7_]; go_simp) ?_
              refine (add_p p1 p2 p3 o1 o2 o3 _).mono ?_
              rintro e w8 ⟨rfl, hk⟩
              exact ⟨_, rfl, h _ w8 rfl hk⟩
            · have e5_ : X 5 = _ := hD 5 (by decide) rfl
              have hv := v4.below (show Keep [] _ _ from hb).nil
              have c0_ := hv.at 0 rfl
              have c1_ := hv.at 1 rfl
              have c2_ := hv.at 2 rfl
              refine tv rfl (by simp only [e5_]; rfl) ?_ (by exact h _ w7 rfl (Below.refl _ _))
              simp only [e5_]; go_simp <;> first | rfl | (simp only [IntWalk.i64_left]; rfl) | (simp only [IntWalk.i64_left, *]; done) | (simp only [IntWalk.i64_left, *]; rfl)
            · have e5_ : X 5 = _ := hD 5 (by decide) rfl
              have hv := v5.below (show Keep [] _ _ from hb).nil
              have c0_ := hv.at 0 rfl
              have c1_ := hv.at 1 rfl
              have c2_ := hv.at 2 rfl
              refine tv rfl (by simp only [e5_]; rfl) ?_ (by exact h _ w7 rfl (Below.refl _ _))
              simp only [e5_]; go_simp <;> first | rfl | (simp only [IntWalk.i64_left]; rfl) | (simp only [IntWalk.i64_left, *]; done) | (simp only [IntWalk.i64_left, *]; rfl)
            · have e5_ : X 5 = _ := hD 5 (by decide) rfl
              have e9_ : X 9 = _ := hD 9 (by decide) rfl
              have e10_ : X 10 = _ := hD 10 (by decide) rfl
              refine wpOp_call (i := 11) (f := 16) (args := #[.agg #[.int .i64 p1, .int .i64 p2, .int .i64 p3], .agg #[.int .i64 o1, .int .i64 o2, .int .i64 o3]]) 79 rfl rfl (by simp only [e5_, e9_, e10_]; rfl) (by simp only [e5_, e9_, e10_]; go_simp) ?_
              refine (add_r p1 p2 p3 o1 o2 o3 _).mono ?_
              rintro e w8 ⟨rfl, hk⟩
              exact ⟨_, rfl, h _ w8 rfl hk⟩
            · have e5_ : X 5 = _ := hD 5 (by decide) rfl
              have e8_ : X 8 = _ := hD 8 (by decide) rfl
              have e11_ : X 11 = _ := hD 11 (by decide) rfl
              refine tv rfl (by simp only [e5_, e8_, e11_]; rfl) ?_ (by exact h _ w7 rfl (Below.refl _ _))
              simp only [e5_, e8_, e11_]; go_simp <;> first | rfl | (simp only [IntWalk.i64_left]; rfl) | (simp only [IntWalk.i64_left, *]; done) | (simp only [IntWalk.i64_left, *]; rfl)
            · have e5_ : X 5 = _ := hD 5 (by decide) rfl
              have e12_ : X 12 = _ := hD 12 (by decide) rfl
              refine tv rfl (by simp only [e5_, e12_]; rfl) ?_ (by exact h _ w7 rfl (Below.refl _ _))
              simp only [e5_, e12_]; go_simp <;> first | rfl | (simp only [IntWalk.i64_left]; rfl) | (simp only [IntWalk.i64_left, *]; done) | (simp only [IntWalk.i64_left, *]; rfl)
            · have e13_ : X 13 = _ := hD 13 (by decide) rfl
              refine tv rfl (by simp only [e13_]; rfl) ?_ (by exact h _ w7 rfl (Below.refl _ _))
              simp only [e13_]; go_simp <;> first | rfl | (simp only [IntWalk.i64_left]; rfl) | (simp only [IntWalk.i64_left, *]; done) | (simp only [IntWalk.i64_left, *]; rfl)
            · have e14_ : X 14 = _ := hD 14 (by decide) rfl
              have hv := v4.below (show Keep [] _ _ from hb).nil
              have c0_ := hv.at 0 rfl
              have c1_ := hv.at 1 rfl
              have c2_ := hv.at 2 rfl
              refine tv rfl (by simp only [e14_]; rfl) ?_ (by exact h _ w7 rfl (Below.refl _ _))
              simp only [e14_]; go_simp <;> first | rfl | (simp only [IntWalk.i64_left]; rfl) | (simp only [IntWalk.i64_left, *]; done) | (simp only [IntWalk.i64_left, *]; rfl)
            · have e14_ : X 14 = _ := hD 14 (by decide) rfl
              have hv := v5.below (show Keep [] _ _ from hb).nil
              have c0_ := hv.at 0 rfl
              have c1_ := hv.at 1 rfl
              have c2_ := hv.at 2 rfl
              refine tv rfl (by simp only [e14_]; rfl) ?_ (by exact h _ w7 rfl (Below.refl _ _))
              simp only [e14_]; go_simp <;> first | rfl | (simp only [IntWalk.i64_left]; rfl) | (simp only [IntWalk.i64_left, *]; done) | (simp only [IntWalk.i64_left, *]; rfl)
            · have e14_ : X 14 = _ := hD 14 (by decide) rfl
              have e15_ : X 15 = _ := hD 15 (by decide) rfl
              have e16_ : X 16 = _ := hD 16 (by decide) rfl
              refine wpOp_call (i := 17) (f := 17) (args := #[.agg #[.int .i64 p1, .int .i64 p2, .int .i64 p3], .agg #[.int .i64 o1, .int .i64 o2, .int .i64 o3]]) 85 rfl rfl (by simp only [e14_, e15_, e16_]; rfl) (by simp only [e14_, e15_, e16_]; go_simp) ?_
              refine (sub_p p1 p2 p3 o1 o2 o3 _).mono ?_
              rintro e w8 ⟨rfl, hk⟩
              exact ⟨_, rfl, h _ w8 rfl hk⟩
            · have e14_ : X 14 = _ := hD 14 (by decide) rfl
              have hv := v4.below (show Keep [] _ _ from hb).nil
              have c0_ := hv.at 0 rfl
              have c1_ := hv.at 1 rfl
              have c2_ := hv.at 2 rfl
              refine tv rfl (by simp only [e14_]; rfl) ?_ (by exact h _ w7 rfl (Below.refl _ _))
              simp only [e14_]; go_simp <;> first | rfl | (simp only [IntWalk.i64_left]; rfl) | (simp only [IntWalk.i64_left, *]; done) | (simp only [IntWalk.i64_left, *]; rfl)
            · have e14_ : X 14 = _ := hD 14 (by decide) rfl
              have hv := v5.below (show Keep [] _ _ from hb).nil
              have c0_ := hv.at 0 rfl
              have c1_ := hv.at 1 rfl
              have c2_ := hv.at 2 rfl
              refine tv rfl (by simp only [e14_]; rfl) ?_ (by exact h _ w7 rfl (Below.refl _ _))
              simp only [e14_]; go_simp <;> first | rfl | (simp only [IntWalk.i64_left]; rfl) | (simp only [IntWalk.i64_left, *]; done) | (simp only [IntWalk.i64_left, *]; rfl)
            · have e14_ : X 14 = _ := hD 14 (by decide) rfl
              have e18_ : X 18 = _ := hD 18 (by decide) rfl
              have e19_ : X 19 = _ := hD 19 (by decide) rfl
              refine wpOp_call (i := 20) (f := 18) (args := #[.agg #[.int .i64 p1, .int .i64 p2, .int .i64 p3], .agg #[.int .i64 o1, .int .i64 o2, .int .i64 o3]]) 88 rfl rfl (by simp only [e14_, e18_, e19_]; rfl) (by simp only [e14_, e18_, e19_]; go_simp) ?_
              refine (sub_r p1 p2 p3 o1 o2 o3 _).mono ?_
              rintro e w8 ⟨rfl, hk⟩
              exact ⟨_, rfl, h _ w8 rfl hk⟩
            · have e14_ : X 14 = _ := hD 14 (by decide) rfl
              have e17_ : X 17 = _ := hD 17 (by decide) rfl
              have e20_ : X 20 = _ := hD 20 (by decide) rfl
              refine tv rfl (by simp only [e14_, e17_, e20_]; rfl) ?_ (by exact h _ w7 rfl (Below.refl _ _))
              simp only [e14_, e17_, e20_]; go_simp <;> first | rfl | (simp only [IntWalk.i64_left]; rfl) | (simp only [IntWalk.i64_left, *]; done) | (simp only [IntWalk.i64_left, *]; rfl)
            · have e14_ : X 14 = _ := hD 14 (by decide) rfl
              have e21_ : X 21 = _ := hD 21 (by decide) rfl
              refine tv rfl (by simp only [e14_, e21_]; rfl) ?_ (by exact h _ w7 rfl (Below.refl _ _))
              simp only [e14_, e21_]; go_simp <;> first | rfl | (simp only [IntWalk.i64_left]; rfl) | (simp only [IntWalk.i64_left, *]; done) | (simp only [IntWalk.i64_left, *]; rfl)
            · have e22_ : X 22 = _ := hD 22 (by decide) rfl
              refine tv rfl (by simp only [e22_]; rfl) ?_ (by exact h _ w7 rfl (Below.refl _ _))
              simp only [e22_]; go_simp <;> first | rfl | (simp only [IntWalk.i64_left]; rfl) | (simp only [IntWalk.i64_left, *]; done) | (simp only [IntWalk.i64_left, *]; rfl)
            · have e23_ : X 23 = _ := hD 23 (by decide) rfl
              have hv := v4.below (show Keep [] _ _ from hb).nil
              have c0_ := hv.at 0 rfl
              have c1_ := hv.at 1 rfl
              have c2_ := hv.at 2 rfl
              refine tv rfl (by simp only [e23_]; rfl) ?_ (by exact h _ w7 rfl (Below.refl _ _))
              simp only [e23_]; go_simp <;> first | rfl | (simp only [IntWalk.i64_left]; rfl) | (simp only [IntWalk.i64_left, *]; done) | (simp only [IntWalk.i64_left, *]; rfl)
            · have e23_ : X 23 = _ := hD 23 (by decide) rfl
              have hv := v5.below (show Keep [] _ _ from hb).nil
              have c0_ := hv.at 0 rfl
              have c1_ := hv.at 1 rfl
              have c2_ := hv.at 2 rfl
              refine tv rfl (by simp only [e23_]; rfl) ?_ (by exact h _ w7 rfl (Below.refl _ _))
              simp only [e23_]; go_simp <;> first | rfl | (simp only [IntWalk.i64_left]; rfl) | (simp only [IntWalk.i64_left, *]; done) | (simp only [IntWalk.i64_left, *]; rfl)
            · have e23_ : X 23 = _ := hD 23 (by decide) rfl
              have e24_ : X 24 = _ := hD 24 (by decide) rfl
              have e25_ : X 25 = _ := hD 25 (by decide) rfl
              refine wpOp_call (i := 26) (f := 19) (args := #[.agg #[.int .i64 p1, .int .i64 p2, .int .i64 p3], .agg #[.int .i64 o1, .int .i64 o2, .int .i64 o3]]) 94 rfl rfl (by simp only [e23_, e24_, e25_]; rfl) (by simp only [e23_, e24_, e25_]; go_simp) ?_
              refine (dot_p p1 p2 p3 o1 o2 o3 _).mono ?_
              rintro e w8 ⟨rfl, hk⟩
              exact ⟨_, rfl, h _ w8 rfl hk⟩
            · have e23_ : X 23 = _ := hD 23 (by decide) rfl
              have hv := v4.below (show Keep [] _ _ from hb).nil
              have c0_ := hv.at 0 rfl
              have c1_ := hv.at 1 rfl
              have c2_ := hv.at 2 rfl
              refine tv rfl (by simp only [e23_]; rfl) ?_ (by exact h _ w7 rfl (Below.refl _ _))
              simp only [e23_]; go_simp <;> first | rfl | (simp only [IntWalk.i64_left]; rfl) | (simp only [IntWalk.i64_left, *]; done) | (simp only [IntWalk.i64_left, *]; rfl)
            · have e23_ : X 23 = _ := hD 23 (by decide) rfl
              have hv := v5.below (show Keep [] _ _ from hb).nil
              have c0_ := hv.at 0 rfl
              have c1_ := hv.at 1 rfl
              have c2_ := hv.at 2 rfl
              refine tv rfl (by simp only [e23_]; rfl) ?_ (by exact h _ w7 rfl (Below.refl _ _))
              simp only [e23_]; go_simp <;> first | rfl | (simp only [IntWalk.i64_left]; rfl) | (simp only [IntWalk.i64_left, *]; done) | (simp only [IntWalk.i64_left, *]; rfl)
            · have e23_ : X 23 = _ := hD 23 (by decide) rfl
              have e27_ : X 27 = _ := hD 27 (by decide) rfl
              have e28_ : X 28 = _ := hD 28 (by decide) rfl
              refine wpOp_call (i := 29) (f := 20) (args := #[.agg #[.int .i64 p1, .int .i64 p2, .int .i64 p3], .agg #[.int .i64 o1, .int .i64 o2, .int .i64 o3]]) 97 rfl rfl (by simp only [e23_, e27_, e28_]; rfl) (by simp only [e23_, e27_, e28_]; go_simp) ?_
              refine (dot_r p1 p2 p3 o1 o2 o3 _).mono ?_
              rintro e w8 ⟨rfl, hk⟩
              exact ⟨_, rfl, h _ w8 rfl hk⟩
            · have e23_ : X 23 = _ := hD 23 (by decide) rfl
              have e26_ : X 26 = _ := hD 26 (by decide) rfl
              have e29_ : X 29 = _ := hD 29 (by decide) rfl
              refine tv rfl (by simp only [e23_, e26_, e29_]; rfl) ?_ (by exact h _ w7 rfl (Below.refl _ _))
              simp only [e23_, e26_, e29_]; go_simp <;> first | rfl | (simp only [IntWalk.i64_left]; rfl) | (simp only [IntWalk.i64_left, *]; done) | (simp only [IntWalk.i64_left, *]; rfl)
            · have e23_ : X 23 = _ := hD 23 (by decide) rfl
              have e30_ : X 30 = _ := hD 30 (by decide) rfl
              refine tv rfl (by simp only [e23_, e30_]; rfl) ?_ (by exact h _ w7 rfl (Below.refl _ _))
              simp only [e23_, e30_]; go_simp <;> first | rfl | (simp only [IntWalk.i64_left]; rfl) | (simp only [IntWalk.i64_left, *]; done) | (simp only [IntWalk.i64_left, *]; rfl)
            · have e31_ : X 31 = _ := hD 31 (by decide) rfl
              refine tv rfl (by simp only [e31_]; rfl) ?_ (by exact h _ w7 rfl (Below.refl _ _))
              simp only [e31_]; go_simp <;> first | rfl | (simp only [IntWalk.i64_left]; rfl) | (simp only [IntWalk.i64_left, *]; done) | (simp only [IntWalk.i64_left, *]; rfl)
            · have e32_ : X 32 = _ := hD 32 (by decide) rfl
              have hv := v4.below (show Keep [] _ _ from hb).nil
              have c0_ := hv.at 0 rfl
              have c1_ := hv.at 1 rfl
              have c2_ := hv.at 2 rfl
              refine tv rfl (by simp only [e32_]; rfl) ?_ (by exact h _ w7 rfl (Below.refl _ _))
              simp only [e32_]; go_simp <;> first | rfl | (simp only [IntWalk.i64_left]; rfl) | (simp only [IntWalk.i64_left, *]; done) | (simp only [IntWalk.i64_left, *]; rfl)
            · have e32_ : X 32 = _ := hD 32 (by decide) rfl
              have hv := v5.below (show Keep [] _ _ from hb).nil
              have c0_ := hv.at 0 rfl
              have c1_ := hv.at 1 rfl
              have c2_ := hv.at 2 rfl
              refine tv rfl (by simp only [e32_]; rfl) ?_ (by exact h _ w7 rfl (Below.refl _ _))
              simp only [e32_]; go_simp <;> first | rfl | (simp only [IntWalk.i64_left]; rfl) | (simp only [IntWalk.i64_left, *]; done) | (simp only [IntWalk.i64_left, *]; rfl)
            · have e32_ : X 32 = _ := hD 32 (by decide) rfl
              have e33_ : X 33 = _ := hD 33 (by decide) rfl
              have e34_ : X 34 = _ := hD 34 (by decide) rfl
              refine wpOp_call (i := 35) (f := 21) (args := #[.agg #[.int .i64 p1, .int .i64 p2, .int .i64 p3], .agg #[.int .i64 o1, .int .i64 o2, .int .i64 o3]]) 103 rfl rfl (by simp only [e32_, e33_, e34_]; rfl) (by simp only [e32_, e33_, e34_]; go_simp) ?_
              refine (cross_p p1 p2 p3 o1 o2 o3 _).mono ?_
              rintro e w8 ⟨rfl, hk⟩
              exact ⟨_, rfl, h _ w8 rfl hk⟩
            · have e32_ : X 32 = _ := hD 32 (by decide) rfl
              have hv := v4.below (show Keep [] _ _ from hb).nil
              have c0_ := hv.at 0 rfl
              have c1_ := hv.at 1 rfl
              have c2_ := hv.at 2 rfl
              refine tv rfl (by simp only [e32_]; rfl) ?_ (by exact h _ w7 rfl (Below.refl _ _))
              simp only [e32_]; go_simp <;> first | rfl | (simp only [IntWalk.i64_left]; rfl) | (simp only [IntWalk.i64_left, *]; done) | (simp only [IntWalk.i64_left, *]; rfl)
            · have e32_ : X 32 = _ := hD 32 (by decide) rfl
              have hv := v5.below (show Keep [] _ _ from hb).nil
              have c0_ := hv.at 0 rfl
              have c1_ := hv.at 1 rfl
              have c2_ := hv.at 2 rfl
              refine tv rfl (by simp only [e32_]; rfl) ?_ (by exact h _ w7 rfl (Below.refl _ _))
              simp only [e32_]; go_simp <;> first | rfl | (simp only [IntWalk.i64_left]; rfl) | (simp only [IntWalk.i64_left, *]; done) | (simp only [IntWalk.i64_left, *]; rfl)
            · have e32_ : X 32 = _ := hD 32 (by decide) rfl
              have e36_ : X 36 = _ := hD 36 (by decide) rfl
              have e37_ : X 37 = _ := hD 37 (by decide) rfl
              refine wpOp_call (i := 38) (f := 22) (args := #[.agg #[.int .i64 p1, .int .i64 p2, .int .i64 p3], .agg #[.int .i64 o1, .int .i64 o2, .int .i64 o3]]) 106 rfl rfl (by simp only [e32_, e36_, e37_]; rfl) (by simp only [e32_, e36_, e37_]; go_simp) ?_
              refine (cross_r p1 p2 p3 o1 o2 o3 _).mono ?_
              rintro e w8 ⟨rfl, hk⟩
              exact ⟨_, rfl, h _ w8 rfl hk⟩
            · have e32_ : X 32 = _ := hD 32 (by decide) rfl
              have e35_ : X 35 = _ := hD 35 (by decide) rfl
              have e38_ : X 38 = _ := hD 38 (by decide) rfl
              refine tv rfl (by simp only [e32_, e35_, e38_]; rfl) ?_ (by exact h _ w7 rfl (Below.refl _ _))
              simp only [e32_, e35_, e38_]; go_simp <;> first | rfl | (simp only [IntWalk.i64_left]; rfl) | (simp only [IntWalk.i64_left, *]; done) | (simp only [IntWalk.i64_left, *]; rfl)
            · have e32_ : X 32 = _ := hD 32 (by decide) rfl
              have e39_ : X 39 = _ := hD 39 (by decide) rfl
              refine tv rfl (by simp only [e32_, e39_]; rfl) ?_ (by exact h _ w7 rfl (Below.refl _ _))
              simp only [e32_, e39_]; go_simp <;> first | rfl | (simp only [IntWalk.i64_left]; rfl) | (simp only [IntWalk.i64_left, *]; done) | (simp only [IntWalk.i64_left, *]; rfl)
            · have e40_ : X 40 = _ := hD 40 (by decide) rfl
              refine tv rfl (by simp only [e40_]; rfl) ?_ (by exact h _ w7 rfl (Below.refl _ _))
              simp only [e40_]; go_simp <;> first | rfl | (simp only [IntWalk.i64_left]; rfl) | (simp only [IntWalk.i64_left, *]; done) | (simp only [IntWalk.i64_left, *]; rfl)
            · have e41_ : X 41 = _ := hD 41 (by decide) rfl
              have hv := v4.below (show Keep [] _ _ from hb).nil
              have c0_ := hv.at 0 rfl
              have c1_ := hv.at 1 rfl
              have c2_ := hv.at 2 rfl
              refine tv rfl (by simp only [e41_]; rfl) ?_ (by exact h _ w7 rfl (Below.refl _ _))
              simp only [e41_]; go_simp <;> first | rfl | (simp only [IntWalk.i64_left]; rfl) | (simp only [IntWalk.i64_left, *]; done) | (simp only [IntWalk.i64_left, *]; rfl)
            · have e41_ : X 41 = _ := hD 41 (by decide) rfl
              have hv := v5.below (show Keep [] _ _ from hb).nil
              have c0_ := hv.at 0 rfl
              have c1_ := hv.at 1 rfl
              have c2_ := hv.at 2 rfl
              refine tv rfl (by simp only [e41_]; rfl) ?_ (by exact h _ w7 rfl (Below.refl _ _))
              simp only [e41_]; go_simp <;> first | rfl | (simp only [IntWalk.i64_left]; rfl) | (simp only [IntWalk.i64_left, *]; done) | (simp only [IntWalk.i64_left, *]; rfl)
            · have e41_ : X 41 = _ := hD 41 (by decide) rfl
              have e42_ : X 42 = _ := hD 42 (by decide) rfl
              have e43_ : X 43 = _ := hD 43 (by decide) rfl
              refine wpOp_call (i := 44) (f := 23) (args := #[.agg #[.int .i64 p1, .int .i64 p2, .int .i64 p3], .agg #[.int .i64 o1, .int .i64 o2, .int .i64 o3]]) 112 rfl rfl (by simp only [e41_, e42_, e43_]; rfl) (by simp only [e41_, e42_, e43_]; go_simp) ?_
              refine (reach_p p1 p2 p3 o1 o2 o3 _).mono ?_
              rintro e w8 ⟨rfl, hk⟩
              exact ⟨_, rfl, h _ w8 rfl hk⟩
            · have e41_ : X 41 = _ := hD 41 (by decide) rfl
              have hv := v4.below (show Keep [] _ _ from hb).nil
              have c0_ := hv.at 0 rfl
              have c1_ := hv.at 1 rfl
              have c2_ := hv.at 2 rfl
              refine tv rfl (by simp only [e41_]; rfl) ?_ (by exact h _ w7 rfl (Below.refl _ _))
              simp only [e41_]; go_simp <;> first | rfl | (simp only [IntWalk.i64_left]; rfl) | (simp only [IntWalk.i64_left, *]; done) | (simp only [IntWalk.i64_left, *]; rfl)
            · have e41_ : X 41 = _ := hD 41 (by decide) rfl
              have hv := v5.below (show Keep [] _ _ from hb).nil
              have c0_ := hv.at 0 rfl
              have c1_ := hv.at 1 rfl
              have c2_ := hv.at 2 rfl
              refine tv rfl (by simp only [e41_]; rfl) ?_ (by exact h _ w7 rfl (Below.refl _ _))
              simp only [e41_]; go_simp <;> first | rfl | (simp only [IntWalk.i64_left]; rfl) | (simp only [IntWalk.i64_left, *]; done) | (simp only [IntWalk.i64_left, *]; rfl)
            · have e41_ : X 41 = _ := hD 41 (by decide) rfl
              have e45_ : X 45 = _ := hD 45 (by decide) rfl
              have e46_ : X 46 = _ := hD 46 (by decide) rfl
              refine wpOp_call (i := 47) (f := 24) (args := #[.agg #[.int .i64 p1, .int .i64 p2, .int .i64 p3], .agg #[.int .i64 o1, .int .i64 o2, .int .i64 o3]]) 115 rfl rfl (by simp only [e41_, e45_, e46_]; rfl) (by simp only [e41_, e45_, e46_]; go_simp) ?_
              refine (reach_r p1 p2 p3 o1 o2 o3 _).mono ?_
              rintro e w8 ⟨rfl, hk⟩
              exact ⟨_, rfl, h _ w8 rfl hk⟩
            · have e41_ : X 41 = _ := hD 41 (by decide) rfl
              have e44_ : X 44 = _ := hD 44 (by decide) rfl
              have e47_ : X 47 = _ := hD 47 (by decide) rfl
              refine tv rfl (by simp only [e41_, e44_, e47_]; rfl) ?_ (by exact h _ w7 rfl (Below.refl _ _))
              simp only [e41_, e44_, e47_]; go_simp <;> first | rfl | (simp only [IntWalk.i64_left]; rfl) | (simp only [IntWalk.i64_left, *]; done) | (simp only [IntWalk.i64_left, *]; rfl)
            · have e41_ : X 41 = _ := hD 41 (by decide) rfl
              have e48_ : X 48 = _ := hD 48 (by decide) rfl
              refine tv rfl (by simp only [e41_, e48_]; rfl) ?_ (by exact h _ w7 rfl (Below.refl _ _))
              simp only [e41_, e48_]; go_simp <;> first | rfl | (simp only [IntWalk.i64_left]; rfl) | (simp only [IntWalk.i64_left, *]; done) | (simp only [IntWalk.i64_left, *]; rfl)
          case al => exact Each.nil
          case st => exact Each.nil
          case into => exact Each.nil
          case fin =>
            intro X7_ W8 hI
            have hE : Keep [] W7 W8 := hI.keep
            have e49_ : X7_ 49 = _ := hI.fact 49 (by decide) rfl rfl
            have v2 := v2.below hE.nil
            have v3 := v3.below hE.nil
            have v4 := v4.below hE.nil
            have v5 := v5.below hE.nil
            have hB := hB.trans (hE.nil.mono hB.size)
            simp only [e49_]
            clear e49_ hI hE
            have cb4_0 := v4.at 0 rfl
            have cb4_1 := v4.at 1 rfl
            have cb4_2 := v4.at 2 rfl
            go_wp2_with fail
            refine (prim_r1 p1 p2 p3 i1.out i2.out i3.out _).mono ?_
            rintro e W9 ⟨rfl, hk⟩
            try simp only [V]
            have hs := hk
            have v2 := v2.below hs
            have v3 := v3.below hs
            have v4 := v4.below hs
            have v5 := v5.below hs
            have hB := hB.trans (hs.mono hB.size)
            clear cb4_0 cb4_1 cb4_2 hs hk
            have cb4_0 := v4.at 0 rfl
            have ab4_0_1 : ∀ o0, (W9.alloc o0).cell? ⟨b4, 0, none⟩ = some (.int .i64 p1) := fun o0 => (v4.allocs1 o0).at 0 rfl
            have cb4_1 := v4.at 1 rfl
            have ab4_1_1 : ∀ o0, (W9.alloc o0).cell? ⟨b4, 1, none⟩ = some (.int .i64 p2) := fun o0 => (v4.allocs1 o0).at 1 rfl
            have cb4_2 := v4.at 2 rfl
            have ab4_2_1 : ∀ o0, (W9.alloc o0).cell? ⟨b4, 2, none⟩ = some (.int .i64 p3) := fun o0 => (v4.allocs1 o0).at 2 rfl
            go_wp2_with fail
            refine (prim_yes p1 p2 p3 _ _ _ _ i1.out i2.out i3.out (hideV rfl) (hideV rfl) (hideV rfl) (hideV rfl) _).mono ?_
            rintro e W10 ⟨rfl, hk⟩
            have hs : Below W9.heap.size W9 W10 := Below.trans (by repeat (first | exact Below.refl _ _ | refine Below.alloc ?_ (by first | omega | (simp; try omega)) _ | refine Below.setCell ?_ (by first | omega | (simp; try omega)) _)) (hk.mono (by first | omega | (simp; try omega)))
            have v2 := v2.below hs
            have v3 := v3.below hs
            have v4 := v4.below hs
            have v5 := v5.below hs
            have v6 : Var W10 (W9.heap.size) [.int .i64 (p1.tdiv (dv3 p1 p2 p3 : Int)), .int .i64 (p2.tdiv (dv3 p1 p2 p3 : Int)), .int .i64 (p3.tdiv (dv3 p1 p2 p3 : Int))] := Var.low ⟨by first | omega | (simp; try omega), by simp [Cel, go_sem]⟩ hk (by first | omega | (simp; try omega))
            obtain ⟨b6, hb6⟩ : ∃ b, W9.heap.size = b := ⟨_, rfl⟩
            have lob6 : w.heap.size ≤ b6 := by have := hB.size; omega
            rw [hb6] at v6
            try rw [hb6]
            have hB := hB.trans (hs.mono hB.size)
            clear cb4_0 cb4_1 cb4_2 hb6 hs hk ab4_0_1 ab4_1_1 ab4_2_1
            go_wp2_with fail
            have hBs := hB.size
            go_roundw
            case rel => exact ⟨k + 1, by omega, by simp, by repeat (first | exact hB | refine Below.alloc ?_ (by first | omega | (simp; try omega)) _ | refine Below.setCell ?_ (by first | omega | (simp; try omega)) _), v2⟩
            case measure => simp [intOf]; omega
      · obtain rfl : k = 4 := by omega
        go_wp2_with fail
        have hBs := hB.size
        go_ret
        exact ⟨rfl, by repeat (first | exact hB | refine Below.alloc ?_ (by first | omega | (simp; try omega)) _ | refine Below.setCell ?_ (by first | omega | (simp; try omega)) _)⟩
end Go.Proofs.Ytcgdedcgncjplaa
