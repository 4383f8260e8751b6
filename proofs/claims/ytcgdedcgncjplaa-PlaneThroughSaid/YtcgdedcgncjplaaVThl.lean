/- The law PlaneThrough is true. -/
import Derived.Test.YtcgdedcgncjplaaVSan
import Derived.Test.YtcgdedcgncjplaaVThr
namespace Go.Proofs.Ytcgdedcgncjplaa
open Go.RowKit

set_option maxRecDepth 100000 in
set_option maxHeartbeats 8000000 in
theorem thr_le (ad : Addr) (len cap : Nat) (hlen : len ≤ 9223372036854775807) (h1 : (len : Int) ≤ 12) (h2 : (len : Int) ≤ (cap : Int)) (r0 r1 r2 r3 r4 r5 r6 r7 r8 : Int) (w : World) (hl : Lst w (some ad) len w.heap.size) : Calls Try.prog 5 #[.slice (some ad) len cap, .agg #[.int .i64 r0, .int .i64 r1, .int .i64 r2, .int .i64 r3, .int .i64 r4, .int .i64 r5, .int .i64 r6, .int .i64 r7, .int .i64 r8]] w (Gives w (.bool true)) := by
  go_enter Try.func5, Try.ntmps5
  have hB := Below.refl w.heap.size w
  go_wp2_with fail
  refine (sanity_true _).mono ?_
  rintro e W1 ⟨rfl, hk⟩
  have hs : Below w.heap.size w W1 := Below.trans (by repeat (first | exact Below.refl _ _ | refine Below.alloc ?_ (by first | omega | (simp; try omega)) _ | refine Below.setCell ?_ (by first | omega | (simp; try omega)) _)) (hk.mono (by first | omega | (simp; try omega)))
  have hl := hl.below hs
  have v0 : Var W1 (w.heap.size) [.int .i64 r0, .int .i64 r1, .int .i64 r2, .int .i64 r3, .int .i64 r4, .int .i64 r5, .int .i64 r6, .int .i64 r7, .int .i64 r8] := Var.low ⟨by first | omega | (simp; try omega), by simp [Cel, go_sem]⟩ hk (by first | omega | (simp; try omega))
  obtain ⟨b0, hb0⟩ : ∃ b, w.heap.size = b := ⟨_, rfl⟩
  have lob0 : w.heap.size ≤ b0 := by have := hB.size; omega
  rw [hb0] at v0
  try rw [hb0]
  have hB := hB.trans (hs.mono hB.size)
  clear hb0 hs hk
  go_wp2_with fail
  refine (points_r (some ad) len cap 3 (by omega) (by decide) (by decide) _ (hl.mono hB.size (by omega))).mono ?_
  rintro e W2 ⟨g, c, xs, rfl, hxl, hxb, hv, hg, hk⟩
  obtain ⟨x0, x1, x2, x3, x4, x5, x6, x7, x8, rfl⟩ := list9 hxl
  replace hv : Var W2 g [.int .i64 x0, .int .i64 x1, .int .i64 x2, .int .i64 x3, .int .i64 x4, .int .i64 x5, .int .i64 x6, .int .i64 x7, .int .i64 x8] := hv
  clear hxl hxb hg
  have hs := hk
  have v0 := v0.below hs
  have hl := hl.below hs
  have hB := hB.trans (hs.mono hB.size)
  clear hs hk
  clear hl
  go_wp2_with fail
  refine wp_region_dag (by kernel_rfl) ?_
  intro W3 hk
  have hs := hk
  have v0 := v0.below hs
  have hv := hv.below hs
  have hB := hB.trans (hs.mono hB.size)
  clear hs hk
  refine dagV (fun _ => trivial) 51 ?hn (fun X => ⟨#[.slice (some ad) len cap, .agg #[.int .i64 r0, .int .i64 r1, .int .i64 r2, .int .i64 r3, .int .i64 r4, .int .i64 r5, .int .i64 r6, .int .i64 r7, .int .i64 r8], undef, .pointer (some ⟨b0, 0, none⟩), .bool false, .bool true, .slice (some ⟨g, 0, none⟩) 3 c, undef, undef, undef, undef, undef, undef, .bool true, .slice (some ad) len cap, .slice (some ad) len cap, .int .i64 (len : Int), .int .i64 (len : Int), .slice (some ad) len cap, .slice (some ⟨g, 0, none⟩) 3 c, X 0, X 1, X 2, X 3, X 4, X 5, X 6, X 7, X 8, X 9, X 10, X 11, X 12, X 13, X 14, X 15, X 16, X 17, X 18, X 19, X 20, X 21, X 22, X 23, X 24, X 25, X 26, X 27, X 28, X 29, X 30, X 31, X 32, X 33, X 34, X 35, X 36, X 37, X 38, X 39, X 40, X 41, X 42, X 43, X 44, X 45, X 46, X 47, X 48, X 49, X 50, undef, undef, undef, undef, undef, undef, undef, undef, undef, undef, undef, undef, undef, undef, undef, undef, undef, undef, undef, undef, undef, undef, undef, undef, undef, undef, undef, undef, undef, undef, undef, undef, undef], []⟩) [(0, 0, 0), (0, 0, 0), (0, 0, 0), (0, 0, 0), (0, 0, 0), (0, 0, 0), (0, 0, 0), (0, 0, 0), (0, 0, 0), (0, 0, 0), (0, 0, 0), (0, 0, 0), (0, 0, 0), (0, 0, 0), (0, 0, 0), (0, 0, 0), (0, 0, 0), (0, 0, 0), (0, 0, 0), (0, 0, 0), (0, 0, 0), (0, 0, 0), (0, 0, 0), (0, 0, 0), (0, 0, 0), (0, 0, 0), (0, 0, 0), (0, 0, 0), (0, 0, 0), (0, 0, 0), (0, 0, 0), (0, 0, 0), (0, 0, 0), (0, 0, 0), (0, 0, 0), (0, 0, 0), (0, 0, 0), (0, 0, 0), (0, 0, 0), (0, 0, 0), (0, 0, 0), (0, 0, 0), (0, 0, 0), (0, 0, 0), (0, 0, 0), (0, 0, 0), (0, 0, 0), (0, 0, 0), (0, 0, 0), (0, 0, 0), (0, 0, 0)] (fun _ => []) [.val (.slice (some ⟨g, 0, none⟩) 3 c), .val (.pointer (some ⟨g, 0, none⟩)), .val (.agg #[.int .i64 x0, .int .i64 x1, .int .i64 x2]), .val (.slice (some ⟨g, 0, none⟩) 3 c), .val (.pointer (some ⟨g, 3, none⟩)), .val (.agg #[.int .i64 x3, .int .i64 x4, .int .i64 x5]), .val (.slice (some ⟨g, 0, none⟩) 3 c), .val (.pointer (some ⟨g, 6, none⟩)), .val (.agg #[.int .i64 x6, .int .i64 x7, .int .i64 x8]), .val (.agg #[.int .i64 x0, .int .i64 x1, .int .i64 x2, .int .i64 x3, .int .i64 x4, .int .i64 x5, .int .i64 x6, .int .i64 x7, .int .i64 x8]), .val (.agg #[.int .i64 r0, .int .i64 r1, .int .i64 r2, .int .i64 r3, .int .i64 r4, .int .i64 r5, .int .i64 r6, .int .i64 r7, .int .i64 r8]), .val (.slice (some ⟨g, 0, none⟩) 3 c), .val (.pointer (some ⟨g, 0, none⟩)), .val (.agg #[.int .i64 x0, .int .i64 x1, .int .i64 x2]), .val (.pointer (some ⟨b0, 3, none⟩)), .val (.agg #[.int .i64 r3, .int .i64 r4, .int .i64 r5]), .val (.slice (some ⟨g, 0, none⟩) 3 c), .val (.pointer (some ⟨g, 6, none⟩)), .val (.agg #[.int .i64 x6, .int .i64 x7, .int .i64 x8]), .val (.agg #[.int .i64 x0, .int .i64 x1, .int .i64 x2, .int .i64 r3, .int .i64 r4, .int .i64 r5, .int .i64 x6, .int .i64 x7, .int .i64 x8]), .val (.slice (some ⟨g, 0, none⟩) 3 c), .val (.pointer (some ⟨g, 0, none⟩)), .val (.agg #[.int .i64 x0, .int .i64 x1, .int .i64 x2]), .val (.slice (some ⟨g, 0, none⟩) 3 c), .val (.pointer (some ⟨g, 3, none⟩)), .val (.agg #[.int .i64 x3, .int .i64 x4, .int .i64 x5]), .val (.slice (some ⟨g, 0, none⟩) 3 c), .val (.pointer (some ⟨g, 0, none⟩)), .val (.agg #[.int .i64 x0, .int .i64 x1, .int .i64 x2]), .val (.agg #[.int .i64 x0, .int .i64 x1, .int .i64 x2, .int .i64 x3, .int .i64 x4, .int .i64 x5, .int .i64 x0, .int .i64 x1, .int .i64 x2]), .val (.slice (some ⟨g, 0, none⟩) 3 c), .val (.pointer (some ⟨g, 0, none⟩)), .val (.agg #[.int .i64 x0, .int .i64 x1, .int .i64 x2]), .val (.slice (some ⟨g, 0, none⟩) 3 c), .val (.pointer (some ⟨g, 3, none⟩)), .val (.agg #[.int .i64 x3, .int .i64 x4, .int .i64 x5]), .val (.slice (some ⟨g, 0, none⟩) 3 c), .val (.pointer (some ⟨g, 3, none⟩)), .val (.agg #[.int .i64 x3, .int .i64 x4, .int .i64 x5]), .val (.slice (some ⟨g, 0, none⟩) 3 c), .val (.pointer (some ⟨g, 3, none⟩)), .val (.agg #[.int .i64 x3, .int .i64 x4, .int .i64 x5]), .val (.agg #[.int .i64 (wrap64 (x3 + x3)), .int .i64 (wrap64 (x4 + x4)), .int .i64 (wrap64 (x5 + x5))]), .val (.slice (some ⟨g, 0, none⟩) 3 c), .val (.pointer (some ⟨g, 0, none⟩)), .val (.agg #[.int .i64 x0, .int .i64 x1, .int .i64 x2]), .val (.agg #[.int .i64 (wrap64 ((wrap64 (x3 + x3)) - x0)), .int .i64 (wrap64 ((wrap64 (x4 + x4)) - x1)), .int .i64 (wrap64 ((wrap64 (x5 + x5)) - x2))]), .val (.agg #[.int .i64 x0, .int .i64 x1, .int .i64 x2, .int .i64 x3, .int .i64 x4, .int .i64 x5, .int .i64 (wrap64 ((wrap64 (x3 + x3)) - x0)), .int .i64 (wrap64 ((wrap64 (x4 + x4)) - x1)), .int .i64 (wrap64 ((wrap64 (x5 + x5)) - x2))]), .sl 5 [.int .i64 x0, .int .i64 x1, .int .i64 x2, .int .i64 x3, .int .i64 x4, .int .i64 x5, .int .i64 x6, .int .i64 x7, .int .i64 x8, .int .i64 r0, .int .i64 r1, .int .i64 r2, .int .i64 r3, .int .i64 r4, .int .i64 r5, .int .i64 r6, .int .i64 r7, .int .i64 r8, .int .i64 x0, .int .i64 x1, .int .i64 x2, .int .i64 r3, .int .i64 r4, .int .i64 r5, .int .i64 x6, .int .i64 x7, .int .i64 x8, .int .i64 x0, .int .i64 x1, .int .i64 x2, .int .i64 x3, .int .i64 x4, .int .i64 x5, .int .i64 x0, .int .i64 x1, .int .i64 x2, .int .i64 x0, .int .i64 x1, .int .i64 x2, .int .i64 x3, .int .i64 x4, .int .i64 x5, .int .i64 (wrap64 ((wrap64 (x3 + x3)) - x0)), .int .i64 (wrap64 ((wrap64 (x4 + x4)) - x1)), .int .i64 (wrap64 ((wrap64 (x5 + x5)) - x2))], .val (.int .i64 5), .val (.int .i64 0)] [[], [0], [1], [], [3], [4], [], [6], [7], [2, 5, 8], [], [], [11], [12], [], [14], [], [16], [17], [13, 15, 18], [], [20], [21], [], [23], [24], [], [26], [27], [22, 25, 28], [], [30], [31], [], [33], [34], [], [36], [37], [], [39], [40], [38, 41], [], [43], [44], [42, 45], [32, 35, 46], [9, 10, 19, 29, 47], [48], []] [0, 1, 2, 3, 4, 5, 6, 7, 8, 9, 10, 11, 12, 13, 14, 15, 16, 17, 18, 19, 20, 21, 22, 23, 24, 25, 26, 27, 28, 29, 30, 31, 32, 33, 34, 35, 36, 37, 38, 39, 40, 41, 42, 43, 44, 45, 46, 47, 48, 49, 50] [] [] [] (fun _ => 0) W3 (by kernel_rfl) (by kernel_rfl) (by kernel_rfl) (by kernel_rfl) (by kernel_rfl) ?dist ?olds ?op ?al ?st ?into ?fin (fun _ => undef) _ _ (by kernel_rfl) (of_decide_eq_true (by kernel_rfl)) (of_decide_eq_true (by kernel_rfl))
  case hn => rfl
  case dist => intro i hi j hj; simp at hi hj; try omega
  case olds => exact nofun
  case op =>
    repeat' first | exact Each.nil | refine Each.cons ?_ ?_
    all_goals intro X w7 H hb hD h
    · refine tv rfl (by rfl) ?_ (by exact h _ w7 rfl (Below.refl _ _))
      go_simp <;> first | rfl | (simp only [IntWalk.i64_left]; rfl) | (simp only [IntWalk.i64_left, *]; done) | (simp only [IntWalk.i64_left, *]; rfl)
    · have e0_ : X 0 = _ := hD 0 (by decide) rfl
      refine tv rfl (by simp only [e0_]; rfl) ?_ (by exact h _ w7 rfl (Below.refl _ _))
      simp only [e0_]; go_simp <;> first | rfl | (simp only [IntWalk.i64_left]; rfl) | (simp only [IntWalk.i64_left, *]; done) | (simp only [IntWalk.i64_left, *]; rfl)
    · have e1_ : X 1 = _ := hD 1 (by decide) rfl
      have hv := hv.below (show Keep [] _ _ from hb).nil
      have c0_ := hv.at 0 rfl
      have c1_ := hv.at 1 rfl
      have c2_ := hv.at 2 rfl
      refine tv rfl (by simp only [e1_]; rfl) ?_ (by exact h _ w7 rfl (Below.refl _ _))
      simp only [e1_]; go_simp <;> first | rfl | (simp only [IntWalk.i64_left]; rfl) | (simp only [IntWalk.i64_left, *]; done) | (simp only [IntWalk.i64_left, *]; rfl)
    · refine tv rfl (by rfl) ?_ (by exact h _ w7 rfl (Below.refl _ _))
      go_simp <;> first | rfl | (simp only [IntWalk.i64_left]; rfl) | (simp only [IntWalk.i64_left, *]; done) | (simp only [IntWalk.i64_left, *]; rfl)
    · have e3_ : X 3 = _ := hD 3 (by decide) rfl
      refine tv rfl (by simp only [e3_]; rfl) ?_ (by exact h _ w7 rfl (Below.refl _ _))
      simp only [e3_]; go_simp <;> first | rfl | (simp only [IntWalk.i64_left]; rfl) | (simp only [IntWalk.i64_left, *]; done) | (simp only [IntWalk.i64_left, *]; rfl)
    · have e4_ : X 4 = _ := hD 4 (by decide) rfl
      have hv := hv.below (show Keep [] _ _ from hb).nil
      have c0_ := hv.at 3 rfl
      have c1_ := hv.at 4 rfl
      have c2_ := hv.at 5 rfl
      refine tv rfl (by simp only [e4_]; rfl) ?_ (by exact h _ w7 rfl (Below.refl _ _))
      simp only [e4_]; go_simp <;> first | rfl | (simp only [IntWalk.i64_left]; rfl) | (simp only [IntWalk.i64_left, *]; done) | (simp only [IntWalk.i64_left, *]; rfl)
    · refine tv rfl (by rfl) ?_ (by exact h _ w7 rfl (Below.refl _ _))
      go_simp <;> first | rfl | (simp only [IntWalk.i64_left]; rfl) | (simp only [IntWalk.i64_left, *]; done) | (simp only [IntWalk.i64_left, *]; rfl)
    · have e6_ : X 6 = _ := hD 6 (by decide) rfl
      refine tv rfl (by simp only [e6_]; rfl) ?_ (by exact h _ w7 rfl (Below.refl _ _))
      simp only [e6_]; go_simp <;> first | rfl | (simp only [IntWalk.i64_left]; rfl) | (simp only [IntWalk.i64_left, *]; done) | (simp only [IntWalk.i64_left, *]; rfl)
    · have e7_ : X 7 = _ := hD 7 (by decide) rfl
      have hv := hv.below (show Keep [] _ _ from hb).nil
      have c0_ := hv.at 6 rfl
      have c1_ := hv.at 7 rfl
      have c2_ := hv.at 8 rfl
      refine tv rfl (by simp only [e7_]; rfl) ?_ (by exact h _ w7 rfl (Below.refl _ _))
      simp only [e7_]; go_simp <;> first | rfl | (simp only [IntWalk.i64_left]; rfl) | (simp only [IntWalk.i64_left, *]; done) | (simp only [IntWalk.i64_left, *]; rfl)
    · have e2_ : X 2 = _ := hD 2 (by decide) rfl
      have e5_ : X 5 = _ := hD 5 (by decide) rfl
      have e8_ : X 8 = _ := hD 8 (by decide) rfl
      refine tv rfl (by simp only [e2_, e5_, e8_]; rfl) ?_ (by exact h _ w7 rfl (Below.refl _ _))
      simp only [e2_, e5_, e8_]; go_simp <;> first | rfl | (simp only [IntWalk.i64_left]; rfl) | (simp only [IntWalk.i64_left, *]; done) | (simp only [IntWalk.i64_left, *]; rfl)
    · have hv := v0.below (show Keep [] _ _ from hb).nil
      have c0_ := hv.at 0 rfl
      have c1_ := hv.at 1 rfl
      have c2_ := hv.at 2 rfl
      have c3_ := hv.at 3 rfl
      have c4_ := hv.at 4 rfl
      have c5_ := hv.at 5 rfl
      have c6_ := hv.at 6 rfl
      have c7_ := hv.at 7 rfl
      have c8_ := hv.at 8 rfl
      refine tv rfl (by rfl) ?_ (by exact h _ w7 rfl (Below.refl _ _))
      go_simp <;> first | rfl | (simp only [IntWalk.i64_left]; rfl) | (simp only [IntWalk.i64_left, *]; done) | (simp only [IntWalk.i64_left, *]; rfl)
    · refine tv rfl (by rfl) ?_ (by exact h _ w7 rfl (Below.refl _ _))
      go_simp <;> first | rfl | (simp only [IntWalk.i64_left]; rfl) | (simp only [IntWalk.i64_left, *]; done) | (simp only [IntWalk.i64_left, *]; rfl)
    · have e11_ : X 11 = _ := hD 11 (by decide) rfl
      refine tv rfl (by simp only [e11_]; rfl) ?_ (by exact h _ w7 rfl (Below.refl _ _))
      simp only [e11_]; go_simp <;> first | rfl | (simp only [IntWalk.i64_left]; rfl) | (simp only [IntWalk.i64_left, *]; done) | (simp only [IntWalk.i64_left, *]; rfl)
    · have e12_ : X 12 = _ := hD 12 (by decide) rfl
      have hv := hv.below (show Keep [] _ _ from hb).nil
      have c0_ := hv.at 0 rfl
      have c1_ := hv.at 1 rfl
      have c2_ := hv.at 2 rfl
      refine tv rfl (by simp only [e12_]; rfl) ?_ (by exact h _ w7 rfl (Below.refl _ _))
      simp only [e12_]; go_simp <;> first | rfl | (simp only [IntWalk.i64_left]; rfl) | (simp only [IntWalk.i64_left, *]; done) | (simp only [IntWalk.i64_left, *]; rfl)
    · refine tv rfl (by rfl) ?_ (by exact h _ w7 rfl (Below.refl _ _))
      go_simp <;> first | rfl | (simp only [IntWalk.i64_left]; rfl) | (simp only [IntWalk.i64_left, *]; done) | (simp only [IntWalk.i64_left, *]; rfl)
    · have e14_ : X 14 = _ := hD 14 (by decide) rfl
      have hv := v0.below (show Keep [] _ _ from hb).nil
      have c0_ := hv.at 3 rfl
      have c1_ := hv.at 4 rfl
      have c2_ := hv.at 5 rfl
      refine tv rfl (by simp only [e14_]; rfl) ?_ (by exact h _ w7 rfl (Below.refl _ _))
      simp only [e14_]; go_simp <;> first | rfl | (simp only [IntWalk.i64_left]; rfl) | (simp only [IntWalk.i64_left, *]; done) | (simp only [IntWalk.i64_left, *]; rfl)
    · refine tv rfl (by rfl) ?_ (by exact h _ w7 rfl (Below.refl _ _))
      go_simp <;> first | rfl | (simp only [IntWalk.i64_left]; rfl) | (simp only [IntWalk.i64_left, *]; done) | (simp only [IntWalk.i64_left, *]; rfl)
    · have e16_ : X 16 = _ := hD 16 (by decide) rfl
      refine tv rfl (by simp only [e16_]; rfl) ?_ (by exact h _ w7 rfl (Below.refl _ _))
      simp only [e16_]; go_simp <;> first | rfl | (simp only [IntWalk.i64_left]; rfl) | (simp only [IntWalk.i64_left, *]; done) | (simp only [IntWalk.i64_left, *]; rfl)
    · have e17_ : X 17 = _ := hD 17 (by decide) rfl
      have hv := hv.below (show Keep [] _ _ from hb).nil
      have c0_ := hv.at 6 rfl
      have c1_ := hv.at 7 rfl
      have c2_ := hv.at 8 rfl
      refine tv rfl (by simp only [e17_]; rfl) ?_ (by exact h _ w7 rfl (Below.refl _ _))
      simp only [e17_]; go_simp <;> first | rfl | (simp only [IntWalk.i64_left]; rfl) | (simp only [IntWalk.i64_left, *]; done) | (simp only [IntWalk.i64_left, *]; rfl)
    · have e13_ : X 13 = _ := hD 13 (by decide) rfl
      have e15_ : X 15 = _ := hD 15 (by decide) rfl
      have e18_ : X 18 = _ := hD 18 (by decide) rfl
      refine tv rfl (by simp only [e13_, e15_, e18_]; rfl) ?_ (by exact h _ w7 rfl (Below.refl _ _))
      simp only [e13_, e15_, e18_]; go_simp <;> first | rfl | (simp only [IntWalk.i64_left]; rfl) | (simp only [IntWalk.i64_left, *]; done) | (simp only [IntWalk.i64_left, *]; rfl)
    · refine tv rfl (by rfl) ?_ (by exact h _ w7 rfl (Below.refl _ _))
      go_simp <;> first | rfl | (simp only [IntWalk.i64_left]; rfl) | (simp only [IntWalk.i64_left, *]; done) | (simp only [IntWalk.i64_left, *]; rfl)
    · have e20_ : X 20 = _ := hD 20 (by decide) rfl
      refine tv rfl (by simp only [e20_]; rfl) ?_ (by exact h _ w7 rfl (Below.refl _ _))
      simp only [e20_]; go_simp <;> first | rfl | (simp only [IntWalk.i64_left]; rfl) | (simp only [IntWalk.i64_left, *]; done) | (simp only [IntWalk.i64_left, *]; rfl)
    · have e21_ : X 21 = _ := hD 21 (by decide) rfl
      have hv := hv.below (show Keep [] _ _ from hb).nil
      have c0_ := hv.at 0 rfl
      have c1_ := hv.at 1 rfl
      have c2_ := hv.at 2 rfl
      refine tv rfl (by simp only [e21_]; rfl) ?_ (by exact h _ w7 rfl (Below.refl _ _))
      simp only [e21_]; go_simp <;> first | rfl | (simp only [IntWalk.i64_left]; rfl) | (simp only [IntWalk.i64_left, *]; done) | (simp only [IntWalk.i64_left, *]; rfl)
    · refine tv rfl (by rfl) ?_ (by exact h _ w7 rfl (Below.refl _ _))
      go_simp <;> first | rfl | (simp only [IntWalk.i64_left]; rfl) | (simp only [IntWalk.i64_left, *]; done) | (simp only [IntWalk.i64_left, *]; rfl)
    · have e23_ : X 23 = _ := hD 23 (by decide) rfl
      refine tv rfl (by simp only [e23_]; rfl) ?_ (by exact h _ w7 rfl (Below.refl _ _))
      simp only [e23_]; go_simp <;> first | rfl | (simp only [IntWalk.i64_left]; rfl) | (simp only [IntWalk.i64_left, *]; done) | (simp only [IntWalk.i64_left, *]; rfl)
    · have e24_ : X 24 = _ := hD 24 (by decide) rfl
      have hv := hv.below (show Keep [] _ _ from hb).nil
      have c0_ := hv.at 3 rfl
      have c1_ := hv.at 4 rfl
      have c2_ := hv.at 5 rfl
      refine tv rfl (by simp only [e24_]; rfl) ?_ (by exact h _ w7 rfl (Below.refl _ _))
      simp only [e24_]; go_simp <;> first | rfl | (simp only [IntWalk.i64_left]; rfl) | (simp only [IntWalk.i64_left, *]; done) | (simp only [IntWalk.i64_left, *]; rfl)
    · refine tv rfl (by rfl) ?_ (by exact h _ w7 rfl (Below.refl _ _))
      go_simp <;> first | rfl | (simp only [IntWalk.i64_left]; rfl) | (simp only [IntWalk.i64_left, *]; done) | (simp only [IntWalk.i64_left, *]; rfl)
    · have e26_ : X 26 = _ := hD 26 (by decide) rfl
      refine tv rfl (by simp only [e26_]; rfl) ?_ (by exact h _ w7 rfl (Below.refl _ _))
      simp only [e26_]; go_simp <;> first | rfl | (simp only [IntWalk.i64_left]; rfl) | (simp only [IntWalk.i64_left, *]; done) | (simp only [IntWalk.i64_left, *]; rfl)
    · have e27_ : X 27 = _ := hD 27 (by decide) rfl
      have hv := hv.below (show Keep [] _ _ from hb).nil
      have c0_ := hv.at 0 rfl
      have c1_ := hv.at 1 rfl
      have c2_ := hv.at 2 rfl
      refine tv rfl (by simp only [e27_]; rfl) ?_ (by exact h _ w7 rfl (Below.refl _ _))
      simp only [e27_]; go_simp <;> first | rfl | (simp only [IntWalk.i64_left]; rfl) | (simp only [IntWalk.i64_left, *]; done) | (simp only [IntWalk.i64_left, *]; rfl)
    · have e22_ : X 22 = _ := hD 22 (by decide) rfl
      have e25_ : X 25 = _ := hD 25 (by decide) rfl
      have e28_ : X 28 = _ := hD 28 (by decide) rfl
      refine tv rfl (by simp only [e22_, e25_, e28_]; rfl) ?_ (by exact h _ w7 rfl (Below.refl _ _))
      simp only [e22_, e25_, e28_]; go_simp <;> first | rfl | (simp only [IntWalk.i64_left]; rfl) | (simp only [IntWalk.i64_left, *]; done) | (simp only [IntWalk.i64_left, *]; rfl)
    · refine tv rfl (by rfl) ?_ (by exact h _ w7 rfl (Below.refl _ _))
      go_simp <;> first | rfl | (simp only [IntWalk.i64_left]; rfl) | (simp only [IntWalk.i64_left, *]; done) | (simp only [IntWalk.i64_left, *]; rfl)
    · have e30_ : X 30 = _ := hD 30 (by decide) rfl
      refine tv rfl (by simp only [e30_]; rfl) ?_ (by exact h _ w7 rfl (Below.refl _ _))
      simp only [e30_]; go_simp <;> first | rfl | (simp only [IntWalk.i64_left]; rfl) | (simp only [IntWalk.i64_left, *]; done) | (simp only [IntWalk.i64_left, *]; rfl)
    · have e31_ : X 31 = _ := hD 31 (by decide) rfl
      have hv := hv.below (show Keep [] _ _ from hb).nil
      have c0_ := hv.at 0 rfl
      have c1_ := hv.at 1 rfl
      have c2_ := hv.at 2 rfl
      refine tv rfl (by simp only [e31_]; rfl) ?_ (by exact h _ w7 rfl (Below.refl _ _))
      simp only [e31_]; go_simp <;> first | rfl | (simp only [IntWalk.i64_left]; rfl) | (simp only [IntWalk.i64_left, *]; done) | (simp only [IntWalk.i64_left, *]; rfl)
    · refine tv rfl (by rfl) ?_ (by exact h _ w7 rfl (Below.refl _ _))
      go_simp <;> first | rfl | (simp only [IntWalk.i64_left]; rfl) | (simp only [IntWalk.i64_left, *]; done) | (simp only [IntWalk.i64_left, *]; rfl)
    · have e33_ : X 33 = _ := hD 33 (by decide) rfl
      refine tv rfl (by simp only [e33_]; rfl) ?_ (by exact h _ w7 rfl (Below.refl _ _))
      simp only [e33_]; go_simp <;> first | rfl | (simp only [IntWalk.i64_left]; rfl) | (simp only [IntWalk.i64_left, *]; done) | (simp only [IntWalk.i64_left, *]; rfl)
    · have e34_ : X 34 = _ := hD 34 (by decide) rfl
      have hv := hv.below (show Keep [] _ _ from hb).nil
      have c0_ := hv.at 3 rfl
      have c1_ := hv.at 4 rfl
      have c2_ := hv.at 5 rfl
      refine tv rfl (by simp only [e34_]; rfl) ?_ (by exact h _ w7 rfl (Below.refl _ _))
      simp only [e34_]; go_simp <;> first | rfl | (simp only [IntWalk.i64_left]; rfl) | (simp only [IntWalk.i64_left, *]; done) | (simp only [IntWalk.i64_left, *]; rfl)
    · refine tv rfl (by rfl) ?_ (by exact h _ w7 rfl (Below.refl _ _))
      go_simp <;> first | rfl | (simp only [IntWalk.i64_left]; rfl) | (simp only [IntWalk.i64_left, *]; done) | (simp only [IntWalk.i64_left, *]; rfl)
    · have e36_ : X 36 = _ := hD 36 (by decide) rfl
      refine tv rfl (by simp only [e36_]; rfl) ?_ (by exact h _ w7 rfl (Below.refl _ _))
      simp only [e36_]; go_simp <;> first | rfl | (simp only [IntWalk.i64_left]; rfl) | (simp only [IntWalk.i64_left, *]; done) | (simp only [IntWalk.i64_left, *]; rfl)
    · have e37_ : X 37 = _ := hD 37 (by decide) rfl
      have hv := hv.below (show Keep [] _ _ from hb).nil
      have c0_ := hv.at 3 rfl
      have c1_ := hv.at 4 rfl
      have c2_ := hv.at 5 rfl
      refine tv rfl (by simp only [e37_]; rfl) ?_ (by exact h _ w7 rfl (Below.refl _ _))
      simp only [e37_]; go_simp <;> first | rfl | (simp only [IntWalk.i64_left]; rfl) | (simp only [IntWalk.i64_left, *]; done) | (simp only [IntWalk.i64_left, *]; rfl)
    · refine tv rfl (by rfl) ?_ (by exact h _ w7 rfl (Below.refl _ _))
      go_simp <;> first | rfl | (simp only [IntWalk.i64_left]; rfl) | (simp only [IntWalk.i64_left, *]; done) | (simp only [IntWalk.i64_left, *]; rfl)
    · have e39_ : X 39 = _ := hD 39 (by decide) rfl
      refine tv rfl (by simp only [e39_]; rfl) ?_ (by exact h _ w7 rfl (Below.refl _ _))
      simp only [e39_]; go_simp <;> first | rfl | (simp only [IntWalk.i64_left]; rfl) | (simp only [IntWalk.i64_left, *]; done) | (simp only [IntWalk.i64_left, *]; rfl)
    · have e40_ : X 40 = _ := hD 40 (by decide) rfl
      have hv := hv.below (show Keep [] _ _ from hb).nil
      have c0_ := hv.at 3 rfl
      have c1_ := hv.at 4 rfl
      have c2_ := hv.at 5 rfl
      refine tv rfl (by simp only [e40_]; rfl) ?_ (by exact h _ w7 rfl (Below.refl _ _))
      simp only [e40_]; go_simp <;> first | rfl | (simp only [IntWalk.i64_left]; rfl) | (simp only [IntWalk.i64_left, *]; done) | (simp only [IntWalk.i64_left, *]; rfl)
    · have e38_ : X 38 = _ := hD 38 (by decide) rfl
      have e41_ : X 41 = _ := hD 41 (by decide) rfl
      refine wpOp_call (i := 42) (f := 16) (args := #[.agg #[.int .i64 x3, .int .i64 x4, .int .i64 x5], .agg #[.int .i64 x3, .int .i64 x4, .int .i64 x5]]) 62 rfl rfl (by simp only [e38_, e41_]; rfl) (by simp only [e38_, e41_]; go_simp) ?_
      refine (add_r x3 x4 x5 x3 x4 x5 _).mono ?_
      rintro e w8 ⟨rfl, hk⟩
      exact ⟨_, rfl, h _ w8 rfl hk⟩
    · refine tv rfl (by rfl) ?_ (by exact h _ w7 rfl (Below.refl _ _))
      go_simp <;> first | rfl | (simp only [IntWalk.i64_left]; rfl) | (simp only [IntWalk.i64_left, *]; done) | (simp only [IntWalk.i64_left, *]; rfl)
    · have e43_ : X 43 = _ := hD 43 (by decide) rfl
      refine tv rfl (by simp only [e43_]; rfl) ?_ (by exact h _ w7 rfl (Below.refl _ _))
      simp only [e43_]; go_simp <;> first | rfl | (simp only [IntWalk.i64_left]; rfl) | (simp only [IntWalk.i64_left, *]; done) | (simp only [IntWalk.i64_left, *]; rfl)
    · have e44_ : X 44 = _ := hD 44 (by decide) rfl
      have hv := hv.below (show Keep [] _ _ from hb).nil
      have c0_ := hv.at 0 rfl
      have c1_ := hv.at 1 rfl
      have c2_ := hv.at 2 rfl
      refine tv rfl (by simp only [e44_]; rfl) ?_ (by exact h _ w7 rfl (Below.refl _ _))
      simp only [e44_]; go_simp <;> first | rfl | (simp only [IntWalk.i64_left]; rfl) | (simp only [IntWalk.i64_left, *]; done) | (simp only [IntWalk.i64_left, *]; rfl)
    · have e42_ : X 42 = _ := hD 42 (by decide) rfl
      have e45_ : X 45 = _ := hD 45 (by decide) rfl
      refine wpOp_call (i := 46) (f := 18) (args := #[.agg #[.int .i64 (wrap64 (x3 + x3)), .int .i64 (wrap64 (x4 + x4)), .int .i64 (wrap64 (x5 + x5))], .agg #[.int .i64 x0, .int .i64 x1, .int .i64 x2]]) 66 rfl rfl (by simp only [e42_, e45_]; rfl) (by simp only [e42_, e45_]; go_simp) ?_
      refine (sub_r (wrap64 (x3 + x3)) (wrap64 (x4 + x4)) (wrap64 (x5 + x5)) x0 x1 x2 _).mono ?_
      rintro e w8 ⟨rfl, hk⟩
      exact ⟨_, rfl, h _ w8 rfl hk⟩
    · have e32_ : X 32 = _ := hD 32 (by decide) rfl
      have e35_ : X 35 = _ := hD 35 (by decide) rfl
      have e46_ : X 46 = _ := hD 46 (by decide) rfl
      refine tv rfl (by simp only [e32_, e35_, e46_]; rfl) ?_ (by exact h _ w7 rfl (Below.refl _ _))
      simp only [e32_, e35_, e46_]; go_simp <;> first | rfl | (simp only [IntWalk.i64_left]; rfl) | (simp only [IntWalk.i64_left, *]; done) | (simp only [IntWalk.i64_left, *]; rfl)
    · have e9_ : X 9 = _ := hD 9 (by decide) rfl
      have e10_ : X 10 = _ := hD 10 (by decide) rfl
      have e19_ : X 19 = _ := hD 19 (by decide) rfl
      have e29_ : X 29 = _ := hD 29 (by decide) rfl
      have e47_ : X 47 = _ := hD 47 (by decide) rfl
      refine wpOp_run rfl ?_
      simp only [e9_, e10_, e19_, e29_, e47_]; go_simp
      have h := h _ _ ⟨_, rfl, Var.new w7 [.int .i64 x0, .int .i64 x1, .int .i64 x2, .int .i64 x3, .int .i64 x4, .int .i64 x5, .int .i64 x6, .int .i64 x7, .int .i64 x8, .int .i64 r0, .int .i64 r1, .int .i64 r2, .int .i64 r3, .int .i64 r4, .int .i64 r5, .int .i64 r6, .int .i64 r7, .int .i64 r8, .int .i64 x0, .int .i64 x1, .int .i64 x2, .int .i64 r3, .int .i64 r4, .int .i64 r5, .int .i64 x6, .int .i64 x7, .int .i64 x8, .int .i64 x0, .int .i64 x1, .int .i64 x2, .int .i64 x3, .int .i64 x4, .int .i64 x5, .int .i64 x0, .int .i64 x1, .int .i64 x2, .int .i64 x0, .int .i64 x1, .int .i64 x2, .int .i64 x3, .int .i64 x4, .int .i64 x5, .int .i64 (wrap64 ((wrap64 (x3 + x3)) - x0)), .int .i64 (wrap64 ((wrap64 (x4 + x4)) - x1)), .int .i64 (wrap64 ((wrap64 (x5 + x5)) - x2))] 51⟩ (belowA _ _)
      have u9_ : ∀ v, upd X 48 v 9 = X 9 := fun _ => rfl
      have u10_ : ∀ v, upd X 48 v 10 = X 10 := fun _ => rfl
      have u19_ : ∀ v, upd X 48 v 19 = X 19 := fun _ => rfl
      have u29_ : ∀ v, upd X 48 v 29 = X 29 := fun _ => rfl
      have u47_ : ∀ v, upd X 48 v 47 = X 47 := fun _ => rfl
      simp only [u9_, u10_, u19_, u29_, u47_, e9_, e10_, e19_, e29_, e47_] at h
      exact h
    · obtain ⟨b48_, e48_, Q48_⟩ := hD 48 (by decide) rfl
      refine tv rfl (by simp only [e48_]; rfl) ?_ (by exact h _ w7 rfl (Below.refl _ _))
      simp only [e48_]; go_simp <;> first | rfl | (simp only [IntWalk.i64_left]; rfl) | (simp only [IntWalk.i64_left, *]; done) | (simp only [IntWalk.i64_left, *]; rfl)
    · refine tv rfl (by rfl) ?_ (by exact h _ w7 rfl (Below.refl _ _))
      go_simp <;> first | rfl | (simp only [IntWalk.i64_left]; rfl) | (simp only [IntWalk.i64_left, *]; done) | (simp only [IntWalk.i64_left, *]; rfl)
  case al => exact Each.nil
  case st => exact Each.nil
  case into => exact Each.nil
  case fin =>
    intro X3_ W4 hI
    have hE : Keep [] W3 W4 := hI.keep
    obtain ⟨b1, e48_, v1⟩ := hI.fact 48 (by decide) rfl rfl
    have e49_ : X3_ 49 = _ := hI.fact 49 (by decide) rfl rfl
    have e50_ : X3_ 50 = _ := hI.fact 50 (by decide) rfl rfl
    have v0 := v0.below hE.nil
    have hv := hv.below hE.nil
    have hB := hB.trans (hE.nil.mono hB.size)
    simp only [e48_, e49_, e50_]
    clear e48_ e49_ e50_ hI hE
    clear v0
    clear hv
    go_wp2_with fail
    go_loopw [70] (fun i wr => ∃ k : Nat, k ≤ 5 ∧ i = .int .i64 (k : Int) ∧ Below w.heap.size w wr ∧ Var wr b1 [.int .i64 x0, .int .i64 x1, .int .i64 x2, .int .i64 x3, .int .i64 x4, .int .i64 x5, .int .i64 x6, .int .i64 x7, .int .i64 x8, .int .i64 r0, .int .i64 r1, .int .i64 r2, .int .i64 r3, .int .i64 r4, .int .i64 r5, .int .i64 r6, .int .i64 r7, .int .i64 r8, .int .i64 x0, .int .i64 x1, .int .i64 x2, .int .i64 r3, .int .i64 r4, .int .i64 r5, .int .i64 x6, .int .i64 x7, .int .i64 x8, .int .i64 x0, .int .i64 x1, .int .i64 x2, .int .i64 x3, .int .i64 x4, .int .i64 x5, .int .i64 x0, .int .i64 x1, .int .i64 x2, .int .i64 x0, .int .i64 x1, .int .i64 x2, .int .i64 x3, .int .i64 x4, .int .i64 x5, .int .i64 (wrap64 ((wrap64 (x3 + x3)) - x0)), .int .i64 (wrap64 ((wrap64 (x4 + x4)) - x1)), .int .i64 (wrap64 ((wrap64 (x5 + x5)) - x2))]) (fun i _ => 5 - (intOf i).toNat)
    case atStart => exact ⟨0, by omega, rfl, hB, v1⟩
    case round =>
      clear hB v1
      obtain ⟨k, hk, rfl, hB, v1⟩ := hrel
      by_cases hlt : k < 5
      · have hk5 : (k : Int) < 5 := by omega
        obtain ⟨e1, e2, e3, f1, f2, f3, i1, i2, i3, q0, q1, q2, q3, q4, q5, q6, q7, q8⟩ : ∃ e1 e2 e3 f1 f2 f3 i1 i2 i3 : Int, ([.int .i64 x0, .int .i64 x1, .int .i64 x2, .int .i64 x3, .int .i64 x4, .int .i64 x5, .int .i64 x6, .int .i64 x7, .int .i64 x8, .int .i64 r0, .int .i64 r1, .int .i64 r2, .int .i64 r3, .int .i64 r4, .int .i64 r5, .int .i64 r6, .int .i64 r7, .int .i64 r8, .int .i64 x0, .int .i64 x1, .int .i64 x2, .int .i64 r3, .int .i64 r4, .int .i64 r5, .int .i64 x6, .int .i64 x7, .int .i64 x8, .int .i64 x0, .int .i64 x1, .int .i64 x2, .int .i64 x3, .int .i64 x4, .int .i64 x5, .int .i64 x0, .int .i64 x1, .int .i64 x2, .int .i64 x0, .int .i64 x1, .int .i64 x2, .int .i64 x3, .int .i64 x4, .int .i64 x5, .int .i64 (wrap64 ((wrap64 (x3 + x3)) - x0)), .int .i64 (wrap64 ((wrap64 (x4 + x4)) - x1)), .int .i64 (wrap64 ((wrap64 (x5 + x5)) - x2))] : List Value)[k * 9]? = some (.int .i64 e1) ∧ ([.int .i64 x0, .int .i64 x1, .int .i64 x2, .int .i64 x3, .int .i64 x4, .int .i64 x5, .int .i64 x6, .int .i64 x7, .int .i64 x8, .int .i64 r0, .int .i64 r1, .int .i64 r2, .int .i64 r3, .int .i64 r4, .int .i64 r5, .int .i64 r6, .int .i64 r7, .int .i64 r8, .int .i64 x0, .int .i64 x1, .int .i64 x2, .int .i64 r3, .int .i64 r4, .int .i64 r5, .int .i64 x6, .int .i64 x7, .int .i64 x8, .int .i64 x0, .int .i64 x1, .int .i64 x2, .int .i64 x3, .int .i64 x4, .int .i64 x5, .int .i64 x0, .int .i64 x1, .int .i64 x2, .int .i64 x0, .int .i64 x1, .int .i64 x2, .int .i64 x3, .int .i64 x4, .int .i64 x5, .int .i64 (wrap64 ((wrap64 (x3 + x3)) - x0)), .int .i64 (wrap64 ((wrap64 (x4 + x4)) - x1)), .int .i64 (wrap64 ((wrap64 (x5 + x5)) - x2))] : List Value)[k * 9 + 1]? = some (.int .i64 e2) ∧ ([.int .i64 x0, .int .i64 x1, .int .i64 x2, .int .i64 x3, .int .i64 x4, .int .i64 x5, .int .i64 x6, .int .i64 x7, .int .i64 x8, .int .i64 r0, .int .i64 r1, .int .i64 r2, .int .i64 r3, .int .i64 r4, .int .i64 r5, .int .i64 r6, .int .i64 r7, .int .i64 r8, .int .i64 x0, .int .i64 x1, .int .i64 x2, .int .i64 r3, .int .i64 r4, .int .i64 r5, .int .i64 x6, .int .i64 x7, .int .i64 x8, .int .i64 x0, .int .i64 x1, .int .i64 x2, .int .i64 x3, .int .i64 x4, .int .i64 x5, .int .i64 x0, .int .i64 x1, .int .i64 x2, .int .i64 x0, .int .i64 x1, .int .i64 x2, .int .i64 x3, .int .i64 x4, .int .i64 x5, .int .i64 (wrap64 ((wrap64 (x3 + x3)) - x0)), .int .i64 (wrap64 ((wrap64 (x4 + x4)) - x1)), .int .i64 (wrap64 ((wrap64 (x5 + x5)) - x2))] : List Value)[k * 9 + 2]? = some (.int .i64 e3) ∧ ([.int .i64 x0, .int .i64 x1, .int .i64 x2, .int .i64 x3, .int .i64 x4, .int .i64 x5, .int .i64 x6, .int .i64 x7, .int .i64 x8, .int .i64 r0, .int .i64 r1, .int .i64 r2, .int .i64 r3, .int .i64 r4, .int .i64 r5, .int .i64 r6, .int .i64 r7, .int .i64 r8, .int .i64 x0, .int .i64 x1, .int .i64 x2, .int .i64 r3, .int .i64 r4, .int .i64 r5, .int .i64 x6, .int .i64 x7, .int .i64 x8, .int .i64 x0, .int .i64 x1, .int .i64 x2, .int .i64 x3, .int .i64 x4, .int .i64 x5, .int .i64 x0, .int .i64 x1, .int .i64 x2, .int .i64 x0, .int .i64 x1, .int .i64 x2, .int .i64 x3, .int .i64 x4, .int .i64 x5, .int .i64 (wrap64 ((wrap64 (x3 + x3)) - x0)), .int .i64 (wrap64 ((wrap64 (x4 + x4)) - x1)), .int .i64 (wrap64 ((wrap64 (x5 + x5)) - x2))] : List Value)[k * 9 + 3]? = some (.int .i64 f1) ∧ ([.int .i64 x0, .int .i64 x1, .int .i64 x2, .int .i64 x3, .int .i64 x4, .int .i64 x5, .int .i64 x6, .int .i64 x7, .int .i64 x8, .int .i64 r0, .int .i64 r1, .int .i64 r2, .int .i64 r3, .int .i64 r4, .int .i64 r5, .int .i64 r6, .int .i64 r7, .int .i64 r8, .int .i64 x0, .int .i64 x1, .int .i64 x2, .int .i64 r3, .int .i64 r4, .int .i64 r5, .int .i64 x6, .int .i64 x7, .int .i64 x8, .int .i64 x0, .int .i64 x1, .int .i64 x2, .int .i64 x3, .int .i64 x4, .int .i64 x5, .int .i64 x0, .int .i64 x1, .int .i64 x2, .int .i64 x0, .int .i64 x1, .int .i64 x2, .int .i64 x3, .int .i64 x4, .int .i64 x5, .int .i64 (wrap64 ((wrap64 (x3 + x3)) - x0)), .int .i64 (wrap64 ((wrap64 (x4 + x4)) - x1)), .int .i64 (wrap64 ((wrap64 (x5 + x5)) - x2))] : List Value)[k * 9 + 4]? = some (.int .i64 f2) ∧ ([.int .i64 x0, .int .i64 x1, .int .i64 x2, .int .i64 x3, .int .i64 x4, .int .i64 x5, .int .i64 x6, .int .i64 x7, .int .i64 x8, .int .i64 r0, .int .i64 r1, .int .i64 r2, .int .i64 r3, .int .i64 r4, .int .i64 r5, .int .i64 r6, .int .i64 r7, .int .i64 r8, .int .i64 x0, .int .i64 x1, .int .i64 x2, .int .i64 r3, .int .i64 r4, .int .i64 r5, .int .i64 x6, .int .i64 x7, .int .i64 x8, .int .i64 x0, .int .i64 x1, .int .i64 x2, .int .i64 x3, .int .i64 x4, .int .i64 x5, .int .i64 x0, .int .i64 x1, .int .i64 x2, .int .i64 x0, .int .i64 x1, .int .i64 x2, .int .i64 x3, .int .i64 x4, .int .i64 x5, .int .i64 (wrap64 ((wrap64 (x3 + x3)) - x0)), .int .i64 (wrap64 ((wrap64 (x4 + x4)) - x1)), .int .i64 (wrap64 ((wrap64 (x5 + x5)) - x2))] : List Value)[k * 9 + 5]? = some (.int .i64 f3) ∧ ([.int .i64 x0, .int .i64 x1, .int .i64 x2, .int .i64 x3, .int .i64 x4, .int .i64 x5, .int .i64 x6, .int .i64 x7, .int .i64 x8, .int .i64 r0, .int .i64 r1, .int .i64 r2, .int .i64 r3, .int .i64 r4, .int .i64 r5, .int .i64 r6, .int .i64 r7, .int .i64 r8, .int .i64 x0, .int .i64 x1, .int .i64 x2, .int .i64 r3, .int .i64 r4, .int .i64 r5, .int .i64 x6, .int .i64 x7, .int .i64 x8, .int .i64 x0, .int .i64 x1, .int .i64 x2, .int .i64 x3, .int .i64 x4, .int .i64 x5, .int .i64 x0, .int .i64 x1, .int .i64 x2, .int .i64 x0, .int .i64 x1, .int .i64 x2, .int .i64 x3, .int .i64 x4, .int .i64 x5, .int .i64 (wrap64 ((wrap64 (x3 + x3)) - x0)), .int .i64 (wrap64 ((wrap64 (x4 + x4)) - x1)), .int .i64 (wrap64 ((wrap64 (x5 + x5)) - x2))] : List Value)[k * 9 + 6]? = some (.int .i64 i1) ∧ ([.int .i64 x0, .int .i64 x1, .int .i64 x2, .int .i64 x3, .int .i64 x4, .int .i64 x5, .int .i64 x6, .int .i64 x7, .int .i64 x8, .int .i64 r0, .int .i64 r1, .int .i64 r2, .int .i64 r3, .int .i64 r4, .int .i64 r5, .int .i64 r6, .int .i64 r7, .int .i64 r8, .int .i64 x0, .int .i64 x1, .int .i64 x2, .int .i64 r3, .int .i64 r4, .int .i64 r5, .int .i64 x6, .int .i64 x7, .int .i64 x8, .int .i64 x0, .int .i64 x1, .int .i64 x2, .int .i64 x3, .int .i64 x4, .int .i64 x5, .int .i64 x0, .int .i64 x1, .int .i64 x2, .int .i64 x0, .int .i64 x1, .int .i64 x2, .int .i64 x3, .int .i64 x4, .int .i64 x5, .int .i64 (wrap64 ((wrap64 (x3 + x3)) - x0)), .int .i64 (wrap64 ((wrap64 (x4 + x4)) - x1)), .int .i64 (wrap64 ((wrap64 (x5 + x5)) - x2))] : List Value)[k * 9 + 7]? = some (.int .i64 i2) ∧ ([.int .i64 x0, .int .i64 x1, .int .i64 x2, .int .i64 x3, .int .i64 x4, .int .i64 x5, .int .i64 x6, .int .i64 x7, .int .i64 x8, .int .i64 r0, .int .i64 r1, .int .i64 r2, .int .i64 r3, .int .i64 r4, .int .i64 r5, .int .i64 r6, .int .i64 r7, .int .i64 r8, .int .i64 x0, .int .i64 x1, .int .i64 x2, .int .i64 r3, .int .i64 r4, .int .i64 r5, .int .i64 x6, .int .i64 x7, .int .i64 x8, .int .i64 x0, .int .i64 x1, .int .i64 x2, .int .i64 x3, .int .i64 x4, .int .i64 x5, .int .i64 x0, .int .i64 x1, .int .i64 x2, .int .i64 x0, .int .i64 x1, .int .i64 x2, .int .i64 x3, .int .i64 x4, .int .i64 x5, .int .i64 (wrap64 ((wrap64 (x3 + x3)) - x0)), .int .i64 (wrap64 ((wrap64 (x4 + x4)) - x1)), .int .i64 (wrap64 ((wrap64 (x5 + x5)) - x2))] : List Value)[k * 9 + 8]? = some (.int .i64 i3) := by
          match k, hlt with
          | 0, _ | 1, _ | 2, _ | 3, _ | 4, _ => exact ⟨_, _, _, _, _, _, _, _, _, rfl, rfl, rfl, rfl, rfl, rfl, rfl, rfl, rfl⟩
        have d0 := v1.at (k * 9) q0
        have d1 := v1.at (k * 9 + 1) q1
        have d2 := v1.at (k * 9 + 2) q2
        have d3 := v1.at (k * 9 + 3) q3
        have d4 := v1.at (k * 9 + 4) q4
        have d5 := v1.at (k * 9 + 5) q5
        have d6 := v1.at (k * 9 + 6) q6
        have d7 := v1.at (k * 9 + 7) q7
        have d8 := v1.at (k * 9 + 8) q8
        clear q0 q1 q2 q3 q4 q5 q6 q7 q8
        go_wp2_with fail
        refine (through_p e1 e2 e3 f1 f2 f3 i1 i2 i3 _).mono ?_
        rintro e W5 ⟨rfl, hk⟩
        try simp only [Pl]
        have hs : Below wr.heap.size wr W5 := Below.trans (by repeat (first | exact Below.refl _ _ | refine Below.alloc ?_ (by first | omega | (simp; try omega)) _ | refine Below.setCell ?_ (by first | omega | (simp; try omega)) _)) (hk.mono (by first | omega | (simp; try omega)))
        have v1 := v1.below hs
        have v2 : Var W5 (wr.heap.size) [.int .i64 e1, .int .i64 e2, .int .i64 e3, .int .i64 f1, .int .i64 f2, .int .i64 f3, .int .i64 i1, .int .i64 i2, .int .i64 i3] := Var.low ⟨by first | omega | (simp; try omega), by simp [Cel, go_sem]⟩ hk (by first | omega | (simp; try omega))
        obtain ⟨b2, hb2⟩ : ∃ b, wr.heap.size = b := ⟨_, rfl⟩
        have lob2 : w.heap.size ≤ b2 := by have := hB.size; omega
        rw [hb2] at v2
        try rw [hb2]
        have hB := hB.trans (hs.mono hB.size)
        clear hb2 hs hk
        clear d0 d1 d2 d3 d4 d5 d6 d7 d8
        have cb2_0 := v2.at 0 rfl
        have ab2_0_1 : ∀ o0, (W5.alloc o0).cell? ⟨b2, 0, none⟩ = some (.int .i64 e1) := fun o0 => (v2.allocs1 o0).at 0 rfl
        have cb2_1 := v2.at 1 rfl
        have ab2_1_1 : ∀ o0, (W5.alloc o0).cell? ⟨b2, 1, none⟩ = some (.int .i64 e2) := fun o0 => (v2.allocs1 o0).at 1 rfl
        have cb2_2 := v2.at 2 rfl
        have ab2_2_1 : ∀ o0, (W5.alloc o0).cell? ⟨b2, 2, none⟩ = some (.int .i64 e3) := fun o0 => (v2.allocs1 o0).at 2 rfl
        have cb2_3 := v2.at 3 rfl
        have ab2_3_1 : ∀ o0, (W5.alloc o0).cell? ⟨b2, 3, none⟩ = some (.int .i64 f1) := fun o0 => (v2.allocs1 o0).at 3 rfl
        have cb2_4 := v2.at 4 rfl
        have ab2_4_1 : ∀ o0, (W5.alloc o0).cell? ⟨b2, 4, none⟩ = some (.int .i64 f2) := fun o0 => (v2.allocs1 o0).at 4 rfl
        have cb2_5 := v2.at 5 rfl
        have ab2_5_1 : ∀ o0, (W5.alloc o0).cell? ⟨b2, 5, none⟩ = some (.int .i64 f3) := fun o0 => (v2.allocs1 o0).at 5 rfl
        have cb2_6 := v2.at 6 rfl
        have ab2_6_1 : ∀ o0, (W5.alloc o0).cell? ⟨b2, 6, none⟩ = some (.int .i64 i1) := fun o0 => (v2.allocs1 o0).at 6 rfl
        have cb2_7 := v2.at 7 rfl
        have ab2_7_1 : ∀ o0, (W5.alloc o0).cell? ⟨b2, 7, none⟩ = some (.int .i64 i2) := fun o0 => (v2.allocs1 o0).at 7 rfl
        have cb2_8 := v2.at 8 rfl
        have ab2_8_1 : ∀ o0, (W5.alloc o0).cell? ⟨b2, 8, none⟩ = some (.int .i64 i3) := fun o0 => (v2.allocs1 o0).at 8 rfl
        go_wp2_with fail
        refine (through_r e1 e2 e3 f1 f2 f3 i1 i2 i3 _).mono ?_
        rintro e W6 ⟨rfl, hk⟩
        try simp only [Pl]
        have hs : Below W5.heap.size W5 W6 := Below.trans (by repeat (first | exact Below.refl _ _ | refine Below.alloc ?_ (by first | omega | (simp; try omega)) _ | refine Below.setCell ?_ (by first | omega | (simp; try omega)) _)) (hk.mono (by first | omega | (simp; try omega)))
        have v1 := v1.below hs
        have v2 := v2.below hs
        have v3 : Var W6 (W5.heap.size) [.int .i64 (thI e1 e2 e3 f1 f2 f3 i1 i2 i3), .int .i64 (thJ e1 e2 e3 f1 f2 f3 i1 i2 i3), .int .i64 (thK e1 e2 e3 f1 f2 f3 i1 i2 i3), .int .i64 (thD e1 e2 e3 f1 f2 f3 i1 i2 i3)] := Var.low ⟨by first | omega | (simp; try omega), by simp [Cel, go_sem]⟩ hk (by first | omega | (simp; try omega))
        obtain ⟨b3, hb3⟩ : ∃ b, W5.heap.size = b := ⟨_, rfl⟩
        have lob3 : w.heap.size ≤ b3 := by have := hB.size; omega
        rw [hb3] at v3
        try rw [hb3]
        have hB := hB.trans (hs.mono hB.size)
        clear cb2_0 cb2_1 cb2_2 cb2_3 cb2_4 cb2_5 cb2_6 cb2_7 cb2_8 hb3 hs hk ab2_0_1 ab2_1_1 ab2_2_1 ab2_3_1 ab2_4_1 ab2_5_1 ab2_6_1 ab2_7_1 ab2_8_1
        have cb3_0 := v3.at 0 rfl
        have ab3_0_1 : ∀ o0, (W6.alloc o0).cell? ⟨b3, 0, none⟩ = some (.int .i64 (thI e1 e2 e3 f1 f2 f3 i1 i2 i3)) := fun o0 => (v3.allocs1 o0).at 0 rfl
        have cb3_1 := v3.at 1 rfl
        have ab3_1_1 : ∀ o0, (W6.alloc o0).cell? ⟨b3, 1, none⟩ = some (.int .i64 (thJ e1 e2 e3 f1 f2 f3 i1 i2 i3)) := fun o0 => (v3.allocs1 o0).at 1 rfl
        have cb3_2 := v3.at 2 rfl
        have ab3_2_1 : ∀ o0, (W6.alloc o0).cell? ⟨b3, 2, none⟩ = some (.int .i64 (thK e1 e2 e3 f1 f2 f3 i1 i2 i3)) := fun o0 => (v3.allocs1 o0).at 2 rfl
        have cb3_3 := v3.at 3 rfl
        have ab3_3_1 : ∀ o0, (W6.alloc o0).cell? ⟨b3, 3, none⟩ = some (.int .i64 (thD e1 e2 e3 f1 f2 f3 i1 i2 i3)) := fun o0 => (v3.allocs1 o0).at 3 rfl
        go_wp2_with fail
        have hBs := hB.size
        go_roundw
        case rel => exact ⟨k + 1, by omega, by simp, by repeat (first | exact hB | refine Below.alloc ?_ (by first | omega | (simp; try omega)) _ | refine Below.setCell ?_ (by first | omega | (simp; try omega)) _), v1.allocs1 _⟩
        case measure => simp [intOf]; omega
      · obtain rfl : k = 5 := by omega
        go_wp2_with fail
        have hBs := hB.size
        go_ret
        exact ⟨rfl, by repeat (first | exact hB | refine Below.alloc ?_ (by first | omega | (simp; try omega)) _ | refine Below.setCell ?_ (by first | omega | (simp; try omega)) _)⟩


set_option maxRecDepth 100000 in
set_option maxHeartbeats 8000000 in
theorem thr_gt (ad : Addr) (len cap : Nat) (hlen : len ≤ 9223372036854775807) (h1 : 12 < (len : Int)) (h2 : (12 : Int) ≤ (cap : Int)) (r0 r1 r2 r3 r4 r5 r6 r7 r8 : Int) (w : World) (hl : Lst w (some ad) len w.heap.size) : Calls Try.prog 5 #[.slice (some ad) len cap, .agg #[.int .i64 r0, .int .i64 r1, .int .i64 r2, .int .i64 r3, .int .i64 r4, .int .i64 r5, .int .i64 r6, .int .i64 r7, .int .i64 r8]] w (Gives w (.bool true)) := by
  go_enter Try.func5, Try.ntmps5
  have hB := Below.refl w.heap.size w
  go_wp2_with fail
  refine (sanity_true _).mono ?_
  rintro e W1 ⟨rfl, hk⟩
  have hs : Below w.heap.size w W1 := Below.trans (by repeat (first | exact Below.refl _ _ | refine Below.alloc ?_ (by first | omega | (simp; try omega)) _ | refine Below.setCell ?_ (by first | omega | (simp; try omega)) _)) (hk.mono (by first | omega | (simp; try omega)))
  have hl := hl.below hs
  have v0 : Var W1 (w.heap.size) [.int .i64 r0, .int .i64 r1, .int .i64 r2, .int .i64 r3, .int .i64 r4, .int .i64 r5, .int .i64 r6, .int .i64 r7, .int .i64 r8] := Var.low ⟨by first | omega | (simp; try omega), by simp [Cel, go_sem]⟩ hk (by first | omega | (simp; try omega))
  obtain ⟨b0, hb0⟩ : ∃ b, w.heap.size = b := ⟨_, rfl⟩
  have lob0 : w.heap.size ≤ b0 := by have := hB.size; omega
  rw [hb0] at v0
  try rw [hb0]
  have hB := hB.trans (hs.mono hB.size)
  clear hb0 hs hk
  go_wp2_with fail
  refine (points_r (some ad) 12 cap 3 (by omega) (by decide) (by decide) _ (hl.mono hB.size (by omega))).mono ?_
  rintro e W2 ⟨g, c, xs, rfl, hxl, hxb, hv, hg, hk⟩
  obtain ⟨x0, x1, x2, x3, x4, x5, x6, x7, x8, rfl⟩ := list9 hxl
  replace hv : Var W2 g [.int .i64 x0, .int .i64 x1, .int .i64 x2, .int .i64 x3, .int .i64 x4, .int .i64 x5, .int .i64 x6, .int .i64 x7, .int .i64 x8] := hv
  clear hxl hxb hg
  have hs := hk
  have v0 := v0.below hs
  have hl := hl.below hs
  have hB := hB.trans (hs.mono hB.size)
  clear hs hk
  clear hl
  go_wp2_with fail
  refine wp_region_dag (by kernel_rfl) ?_
  intro W3 hk
  have hs := hk
  have v0 := v0.below hs
  have hv := hv.below hs
  have hB := hB.trans (hs.mono hB.size)
  clear hs hk
  refine dagV (fun _ => trivial) 51 ?hn (fun X => ⟨#[.slice (some ad) len cap, .agg #[.int .i64 r0, .int .i64 r1, .int .i64 r2, .int .i64 r3, .int .i64 r4, .int .i64 r5, .int .i64 r6, .int .i64 r7, .int .i64 r8], undef, .pointer (some ⟨b0, 0, none⟩), .bool false, .bool true, .slice (some ⟨g, 0, none⟩) 3 c, undef, undef, undef, undef, undef, undef, .bool true, .slice (some ad) len cap, .slice (some ad) len cap, .int .i64 (len : Int), .int .i64 12, .slice (some ad) 12 cap, .slice (some ⟨g, 0, none⟩) 3 c, X 0, X 1, X 2, X 3, X 4, X 5, X 6, X 7, X 8, X 9, X 10, X 11, X 12, X 13, X 14, X 15, X 16, X 17, X 18, X 19, X 20, X 21, X 22, X 23, X 24, X 25, X 26, X 27, X 28, X 29, X 30, X 31, X 32, X 33, X 34, X 35, X 36, X 37, X 38, X 39, X 40, X 41, X 42, X 43, X 44, X 45, X 46, X 47, X 48, X 49, X 50, undef, undef, undef, undef, undef, undef, undef, undef, undef, undef, undef, undef, undef, undef, undef, undef, undef, undef, undef, undef, undef, undef, undef, undef, undef, undef, undef, undef, undef, undef, undef, undef, undef], []⟩) [(0, 0, 0), (0, 0, 0), (0, 0, 0), (0, 0, 0), (0, 0, 0), (0, 0, 0), (0, 0, 0), (0, 0, 0), (0, 0, 0), (0, 0, 0), (0, 0, 0), (0, 0, 0), (0, 0, 0), (0, 0, 0), (0, 0, 0), (0, 0, 0), (0, 0, 0), (0, 0, 0), (0, 0, 0), (0, 0, 0), (0, 0, 0), (0, 0, 0), (0, 0, 0), (0, 0, 0), (0, 0, 0), (0, 0, 0), (0, 0, 0), (0, 0, 0), (0, 0, 0), (0, 0, 0), (0, 0, 0), (0, 0, 0), (0, 0, 0), (0, 0, 0), (0, 0, 0), (0, 0, 0), (0, 0, 0), (0, 0, 0), (0, 0, 0), (0, 0, 0), (0, 0, 0), (0, 0, 0), (0, 0, 0), (0, 0, 0), (0, 0, 0), (0, 0, 0), (0, 0, 0), (0, 0, 0), (0, 0, 0), (0, 0, 0), (0, 0, 0)] (fun _ => []) [.val (.slice (some ⟨g, 0, none⟩) 3 c), .val (.pointer (some ⟨g, 0, none⟩)), .val (.agg #[.int .i64 x0, .int .i64 x1, .int .i64 x2]), .val (.slice (some ⟨g, 0, none⟩) 3 c), .val (.pointer (some ⟨g, 3, none⟩)), .val (.agg #[.int .i64 x3, .int .i64 x4, .int .i64 x5]), .val (.slice (some ⟨g, 0, none⟩) 3 c), .val (.pointer (some ⟨g, 6, none⟩)), .val (.agg #[.int .i64 x6, .int .i64 x7, .int .i64 x8]), .val (.agg #[.int .i64 x0, .int .i64 x1, .int .i64 x2, .int .i64 x3, .int .i64 x4, .int .i64 x5, .int .i64 x6, .int .i64 x7, .int .i64 x8]), .val (.agg #[.int .i64 r0, .int .i64 r1, .int .i64 r2, .int .i64 r3, .int .i64 r4, .int .i64 r5, .int .i64 r6, .int .i64 r7, .int .i64 r8]), .val (.slice (some ⟨g, 0, none⟩) 3 c), .val (.pointer (some ⟨g, 0, none⟩)), .val (.agg #[.int .i64 x0, .int .i64 x1, .int .i64 x2]), .val (.pointer (some ⟨b0, 3, none⟩)), .val (.agg #[.int .i64 r3, .int .i64 r4, .int .i64 r5]), .val (.slice (some ⟨g, 0, none⟩) 3 c), .val (.pointer (some ⟨g, 6, none⟩)), .val (.agg #[.int .i64 x6, .int .i64 x7, .int .i64 x8]), .val (.agg #[.int .i64 x0, .int .i64 x1, .int .i64 x2, .int .i64 r3, .int .i64 r4, .int .i64 r5, .int .i64 x6, .int .i64 x7, .int .i64 x8]), .val (.slice (some ⟨g, 0, none⟩) 3 c), .val (.pointer (some ⟨g, 0, none⟩)), .val (.agg #[.int .i64 x0, .int .i64 x1, .int .i64 x2]), .val (.slice (some ⟨g, 0, none⟩) 3 c), .val (.pointer (some ⟨g, 3, none⟩)), .val (.agg #[.int .i64 x3, .int .i64 x4, .int .i64 x5]), .val (.slice (some ⟨g, 0, none⟩) 3 c), .val (.pointer (some ⟨g, 0, none⟩)), .val (.agg #[.int .i64 x0, .int .i64 x1, .int .i64 x2]), .val (.agg #[.int .i64 x0, .int .i64 x1, .int .i64 x2, .int .i64 x3, .int .i64 x4, .int .i64 x5, .int .i64 x0, .int .i64 x1, .int .i64 x2]), .val (.slice (some ⟨g, 0, none⟩) 3 c), .val (.pointer (some ⟨g, 0, none⟩)), .val (.agg #[.int .i64 x0, .int .i64 x1, .int .i64 x2]), .val (.slice (some ⟨g, 0, none⟩) 3 c), .val (.pointer (some ⟨g, 3, none⟩)), .val (.agg #[.int .i64 x3, .int .i64 x4, .int .i64 x5]), .val (.slice (some ⟨g, 0, none⟩) 3 c), .val (.pointer (some ⟨g, 3, none⟩)), .val (.agg #[.int .i64 x3, .int .i64 x4, .int .i64 x5]), .val (.slice (some ⟨g, 0, none⟩) 3 c), .val (.pointer (some ⟨g, 3, none⟩)), .val (.agg #[.int .i64 x3, .int .i64 x4, .int .i64 x5]), .val (.agg #[.int .i64 (wrap64 (x3 + x3)), .int .i64 (wrap64 (x4 + x4)), .int .i64 (wrap64 (x5 + x5))]), .val (.slice (some ⟨g, 0, none⟩) 3 c), .val (.pointer (some ⟨g, 0, none⟩)), .val (.agg #[.int .i64 x0, .int .i64 x1, .int .i64 x2]), .val (.agg #[.int .i64 (wrap64 ((wrap64 (x3 + x3)) - x0)), .int .i64 (wrap64 ((wrap64 (x4 + x4)) - x1)), .int .i64 (wrap64 ((wrap64 (x5 + x5)) - x2))]), .val (.agg #[.int .i64 x0, .int .i64 x1, .int .i64 x2, .int .i64 x3, .int .i64 x4, .int .i64 x5, .int .i64 (wrap64 ((wrap64 (x3 + x3)) - x0)), .int .i64 (wrap64 ((wrap64 (x4 + x4)) - x1)), .int .i64 (wrap64 ((wrap64 (x5 + x5)) - x2))]), .sl 5 [.int .i64 x0, .int .i64 x1, .int .i64 x2, .int .i64 x3, .int .i64 x4, .int .i64 x5, .int .i64 x6, .int .i64 x7, .int .i64 x8, .int .i64 r0, .int .i64 r1, .int .i64 r2, .int .i64 r3, .int .i64 r4, .int .i64 r5, .int .i64 r6, .int .i64 r7, .int .i64 r8, .int .i64 x0, .int .i64 x1, .int .i64 x2, .int .i64 r3, .int .i64 r4, .int .i64 r5, .int .i64 x6, .int .i64 x7, .int .i64 x8, .int .i64 x0, .int .i64 x1, .int .i64 x2, .int .i64 x3, .int .i64 x4, .int .i64 x5, .int .i64 x0, .int .i64 x1, .int .i64 x2, .int .i64 x0, .int .i64 x1, .int .i64 x2, .int .i64 x3, .int .i64 x4, .int .i64 x5, .int .i64 (wrap64 ((wrap64 (x3 + x3)) - x0)), .int .i64 (wrap64 ((wrap64 (x4 + x4)) - x1)), .int .i64 (wrap64 ((wrap64 (x5 + x5)) - x2))], .val (.int .i64 5), .val (.int .i64 0)] [[], [0], [1], [], [3], [4], [], [6], [7], [2, 5, 8], [], [], [11], [12], [], [14], [], [16], [17], [13, 15, 18], [], [20], [21], [], [23], [24], [], [26], [27], [22, 25, 28], [], [30], [31], [], [33], [34], [], [36], [37], [], [39], [40], [38, 41], [], [43], [44], [42, 45], [32, 35, 46], [9, 10, 19, 29, 47], [48], []] [0, 1, 2, 3, 4, 5, 6, 7, 8, 9, 10, 11, 12, 13, 14, 15, 16, 17, 18, 19, 20, 21, 22, 23, 24, 25, 26, 27, 28, 29, 30, 31, 32, 33, 34, 35, 36, 37, 38, 39, 40, 41, 42, 43, 44, 45, 46, 47, 48, 49, 50] [] [] [] (fun _ => 0) W3 (by kernel_rfl) (by kernel_rfl) (by kernel_rfl) (by kernel_rfl) (by kernel_rfl) ?dist ?olds ?op ?al ?st ?into ?fin (fun _ => undef) _ _ (by kernel_rfl) (of_decide_eq_true (by kernel_rfl)) (of_decide_eq_true (by kernel_rfl))
  case hn => rfl
  case dist => intro i hi j hj; simp at hi hj; try omega
  case olds => exact nofun
  case op =>
    repeat' first | exact Each.nil | refine Each.cons ?_ ?_
    all_goals intro X w7 H hb hD h
    · refine tv rfl (by rfl) ?_ (by exact h _ w7 rfl (Below.refl _ _))
      go_simp <;> first | rfl | (simp only [IntWalk.i64_left]; rfl) | (simp only [IntWalk.i64_left, *]; done) | (simp only [IntWalk.i64_left, *]; rfl)
    · have e0_ : X 0 = _ := hD 0 (by decide) rfl
      refine tv rfl (by simp only [e0_]; rfl) ?_ (by exact h _ w7 rfl (Below.refl _ _))
      simp only [e0_]; go_simp <;> first | rfl | (simp only [IntWalk.i64_left]; rfl) | (simp only [IntWalk.i64_left, *]; done) | (simp only [IntWalk.i64_left, *]; rfl)
    · have e1_ : X 1 = _ := hD 1 (by decide) rfl
      have hv := hv.below (show Keep [] _ _ from hb).nil
      have c0_ := hv.at 0 rfl
      have c1_ := hv.at 1 rfl
      have c2_ := hv.at 2 rfl
      refine tv rfl (by simp only [e1_]; rfl) ?_ (by exact h _ w7 rfl (Below.refl _ _))
      simp only [e1_]; go_simp <;> first | rfl | (simp only [IntWalk.i64_left]; rfl) | (simp only [IntWalk.i64_left, *]; done) | (simp only [IntWalk.i64_left, *]; rfl)
    · refine tv rfl (by rfl) ?_ (by exact h _ w7 rfl (Below.refl _ _))
      go_simp <;> first | rfl | (simp only [IntWalk.i64_left]; rfl) | (simp only [IntWalk.i64_left, *]; done) | (simp only [IntWalk.i64_left, *]; rfl)
    · have e3_ : X 3 = _ := hD 3 (by decide) rfl
      refine tv rfl (by simp only [e3_]; rfl) ?_ (by exact h _ w7 rfl (Below.refl _ _))
      simp only [e3_]; go_simp <;> first | rfl | (simp only [IntWalk.i64_left]; rfl) | (simp only [IntWalk.i64_left, *]; done) | (simp only [IntWalk.i64_left, *]; rfl)
    · have e4_ : X 4 = _ := hD 4 (by decide) rfl
      have hv := hv.below (show Keep [] _ _ from hb).nil
      have c0_ := hv.at 3 rfl
      have c1_ := hv.at 4 rfl
      have c2_ := hv.at 5 rfl
      refine tv rfl (by simp only [e4_]; rfl) ?_ (by exact h _ w7 rfl (Below.refl _ _))
      simp only [e4_]; go_simp <;> first | rfl | (simp only [IntWalk.i64_left]; rfl) | (simp only [IntWalk.i64_left, *]; done) | (simp only [IntWalk.i64_left, *]; rfl)
    · refine tv rfl (by rfl) ?_ (by exact h _ w7 rfl (Below.refl _ _))
      go_simp <;> first | rfl | (simp only [IntWalk.i64_left]; rfl) | (simp only [IntWalk.i64_left, *]; done) | (simp only [IntWalk.i64_left, *]; rfl)
    · have e6_ : X 6 = _ := hD 6 (by decide) rfl
      refine tv rfl (by simp only [e6_]; rfl) ?_ (by exact h _ w7 rfl (Below.refl _ _))
      simp only [e6_]; go_simp <;> first | rfl | (simp only [IntWalk.i64_left]; rfl) | (simp only [IntWalk.i64_left, *]; done) | (simp only [IntWalk.i64_left, *]; rfl)
    · have e7_ : X 7 = _ := hD 7 (by decide) rfl
      have hv := hv.below (show Keep [] _ _ from hb).nil
      have c0_ := hv.at 6 rfl
      have c1_ := hv.at 7 rfl
      have c2_ := hv.at 8 rfl
      refine tv rfl (by simp only [e7_]; rfl) ?_ (by exact h _ w7 rfl (Below.refl _ _))
      simp only [e7_]; go_simp <;> first | rfl | (simp only [IntWalk.i64_left]; rfl) | (simp only [IntWalk.i64_left, *]; done) | (simp only [IntWalk.i64_left, *]; rfl)
    · have e2_ : X 2 = _ := hD 2 (by decide) rfl
      have e5_ : X 5 = _ := hD 5 (by decide) rfl
      have e8_ : X 8 = _ := hD 8 (by decide) rfl
      refine tv rfl (by simp only [e2_, e5_, e8_]; rfl) ?_ (by exact h _ w7 rfl (Below.refl _ _))
      simp only [e2_, e5_, e8_]; go_simp <;> first | rfl | (simp only [IntWalk.i64_left]; rfl) | (simp only [IntWalk.i64_left, *]; done) | (simp only [IntWalk.i64_left, *]; rfl)
    · have hv := v0.below (show Keep [] _ _ from hb).nil
      have c0_ := hv.at 0 rfl
      have c1_ := hv.at 1 rfl
      have c2_ := hv.at 2 rfl
      have c3_ := hv.at 3 rfl
      have c4_ := hv.at 4 rfl
      have c5_ := hv.at 5 rfl
      have c6_ := hv.at 6 rfl
      have c7_ := hv.at 7 rfl
      have c8_ := hv.at 8 rfl
      refine tv rfl (by rfl) ?_ (by exact h _ w7 rfl (Below.refl _ _))
      go_simp <;> first | rfl | (simp only [IntWalk.i64_left]; rfl) | (simp only [IntWalk.i64_left, *]; done) | (simp only [IntWalk.i64_left, *]; rfl)
    · refine tv rfl (by rfl) ?_ (by exact h _ w7 rfl (Below.refl _ _))
      go_simp <;> first | rfl | (simp only [IntWalk.i64_left]; rfl) | (simp only [IntWalk.i64_left, *]; done) | (simp only [IntWalk.i64_left, *]; rfl)
    · have e11_ : X 11 = _ := hD 11 (by decide) rfl
      refine tv rfl (by simp only [e11_]; rfl) ?_ (by exact h _ w7 rfl (Below.refl _ _))
      simp only [e11_]; go_simp <;> first | rfl | (simp only [IntWalk.i64_left]; rfl) | (simp only [IntWalk.i64_left, *]; done) | (simp only [IntWalk.i64_left, *]; rfl)
    · have e12_ : X 12 = _ := hD 12 (by decide) rfl
      have hv := hv.below (show Keep [] _ _ from hb).nil
      have c0_ := hv.at 0 rfl
      have c1_ := hv.at 1 rfl
      have c2_ := hv.at 2 rfl
      refine tv rfl (by simp only [e12_]; rfl) ?_ (by exact h _ w7 rfl (Below.refl _ _))
      simp only [e12_]; go_simp <;> first | rfl | (simp only [IntWalk.i64_left]; rfl) | (simp only [IntWalk.i64_left, *]; done) | (simp only [IntWalk.i64_left, *]; rfl)
    · refine tv rfl (by rfl) ?_ (by exact h _ w7 rfl (Below.refl _ _))
      go_simp <;> first | rfl | (simp only [IntWalk.i64_left]; rfl) | (simp only [IntWalk.i64_left, *]; done) | (simp only [IntWalk.i64_left, *]; rfl)
    · have e14_ : X 14 = _ := hD 14 (by decide) rfl
      have hv := v0.below (show Keep [] _ _ from hb).nil
      have c0_ := hv.at 3 rfl
      have c1_ := hv.at 4 rfl
      have c2_ := hv.at 5 rfl
      refine tv rfl (by simp only [e14_]; rfl) ?_ (by exact h _ w7 rfl (Below.refl _ _))
      simp only [e14_]; go_simp <;> first | rfl | (simp only [IntWalk.i64_left]; rfl) | (simp only [IntWalk.i64_left, *]; done) | (simp only [IntWalk.i64_left, *]; rfl)
    · refine tv rfl (by rfl) ?_ (by exact h _ w7 rfl (Below.refl _ _))
      go_simp <;> first | rfl | (simp only [IntWalk.i64_left]; rfl) | (simp only [IntWalk.i64_left, *]; done) | (simp only [IntWalk.i64_left, *]; rfl)
    · have e16_ : X 16 = _ := hD 16 (by decide) rfl
      refine tv rfl (by simp only [e16_]; rfl) ?_ (by exact h _ w7 rfl (Below.refl _ _))
      simp only [e16_]; go_simp <;> first | rfl | (simp only [IntWalk.i64_left]; rfl) | (simp only [IntWalk.i64_left, *]; done) | (simp only [IntWalk.i64_left, *]; rfl)
    · have e17_ : X 17 = _ := hD 17 (by decide) rfl
      have hv := hv.below (show Keep [] _ _ from hb).nil
      have c0_ := hv.at 6 rfl
      have c1_ := hv.at 7 rfl
      have c2_ := hv.at 8 rfl
      refine tv rfl (by simp only [e17_]; rfl) ?_ (by exact h _ w7 rfl (Below.refl _ _))
      simp only [e17_]; go_simp <;> first | rfl | (simp only [IntWalk.i64_left]; rfl) | (simp only [IntWalk.i64_left, *]; done) | (simp only [IntWalk.i64_left, *]; rfl)
    · have e13_ : X 13 = _ := hD 13 (by decide) rfl
      have e15_ : X 15 = _ := hD 15 (by decide) rfl
      have e18_ : X 18 = _ := hD 18 (by decide) rfl
      refine tv rfl (by simp only [e13_, e15_, e18_]; rfl) ?_ (by exact h _ w7 rfl (Below.refl _ _))
      simp only [e13_, e15_, e18_]; go_simp <;> first | rfl | (simp only [IntWalk.i64_left]; rfl) | (simp only [IntWalk.i64_left, *]; done) | (simp only [IntWalk.i64_left, *]; rfl)
    · refine tv rfl (by rfl) ?_ (by exact h _ w7 rfl (Below.refl _ _))
      go_simp <;> first | rfl | (simp only [IntWalk.i64_left]; rfl) | (simp only [IntWalk.i64_left, *]; done) | (simp only [IntWalk.i64_left, *]; rfl)
    · have e20_ : X 20 = _ := hD 20 (by decide) rfl
      refine tv rfl (by simp only [e20_]; rfl) ?_ (by exact h _ w7 rfl (Below.refl _ _))
      simp only [e20_]; go_simp <;> first | rfl | (simp only [IntWalk.i64_left]; rfl) | (simp only [IntWalk.i64_left, *]; done) | (simp only [IntWalk.i64_left, *]; rfl)
    · have e21_ : X 21 = _ := hD 21 (by decide) rfl
      have hv := hv.below (show Keep [] _ _ from hb).nil
      have c0_ := hv.at 0 rfl
      have c1_ := hv.at 1 rfl
      have c2_ := hv.at 2 rfl
      refine tv rfl (by simp only [e21_]; rfl) ?_ (by exact h _ w7 rfl (Below.refl _ _))
      simp only [e21_]; go_simp <;> first | rfl | (simp only [IntWalk.i64_left]; rfl) | (simp only [IntWalk.i64_left, *]; done) | (simp only [IntWalk.i64_left, *]; rfl)
    · refine tv rfl (by rfl) ?_ (by exact h _ w7 rfl (Below.refl _ _))
      go_simp <;> first | rfl | (simp only [IntWalk.i64_left]; rfl) | (simp only [IntWalk.i64_left, *]; done) | (simp only [IntWalk.i64_left, *]; rfl)
    · have e23_ : X 23 = _ := hD 23 (by decide) rfl
      refine tv rfl (by simp only [e23_]; rfl) ?_ (by exact h _ w7 rfl (Below.refl _ _))
      simp only [e23_]; go_simp <;> first | rfl | (simp only [IntWalk.i64_left]; rfl) | (simp only [IntWalk.i64_left, *]; done) | (simp only [IntWalk.i64_left, *]; rfl)
    · have e24_ : X 24 = _ := hD 24 (by decide) rfl
      have hv := hv.below (show Keep [] _ _ from hb).nil
      have c0_ := hv.at 3 rfl
      have c1_ := hv.at 4 rfl
      have c2_ := hv.at 5 rfl
      refine tv rfl (by simp only [e24_]; rfl) ?_ (by exact h _ w7 rfl (Below.refl _ _))
      simp only [e24_]; go_simp <;> first | rfl | (simp only [IntWalk.i64_left]; rfl) | (simp only [IntWalk.i64_left, *]; done) | (simp only [IntWalk.i64_left, *]; rfl)
    · refine tv rfl (by rfl) ?_ (by exact h _ w7 rfl (Below.refl _ _))
      go_simp <;> first | rfl | (simp only [IntWalk.i64_left]; rfl) | (simp only [IntWalk.i64_left, *]; done) | (simp only [IntWalk.i64_left, *]; rfl)
    · have e26_ : X 26 = _ := hD 26 (by decide) rfl
      refine tv rfl (by simp only [e26_]; rfl) ?_ (by exact h _ w7 rfl (Below.refl _ _))
      simp only [e26_]; go_simp <;> first | rfl | (simp only [IntWalk.i64_left]; rfl) | (simp only [IntWalk.i64_left, *]; done) | (simp only [IntWalk.i64_left, *]; rfl)
    · have e27_ : X 27 = _ := hD 27 (by decide) rfl
      have hv := hv.below (show Keep [] _ _ from hb).nil
      have c0_ := hv.at 0 rfl
      have c1_ := hv.at 1 rfl
      have c2_ := hv.at 2 rfl
      refine tv rfl (by simp only [e27_]; rfl) ?_ (by exact h _ w7 rfl (Below.refl _ _))
      simp only [e27_]; go_simp <;> first | rfl | (simp only [IntWalk.i64_left]; rfl) | (simp only [IntWalk.i64_left, *]; done) | (simp only [IntWalk.i64_left, *]; rfl)
    · have e22_ : X 22 = _ := hD 22 (by decide) rfl
      have e25_ : X 25 = _ := hD 25 (by decide) rfl
      have e28_ : X 28 = _ := hD 28 (by decide) rfl
      refine tv rfl (by simp only [e22_, e25_, e28_]; rfl) ?_ (by exact h _ w7 rfl (Below.refl _ _))
      simp only [e22_, e25_, e28_]; go_simp <;> first | rfl | (simp only [IntWalk.i64_left]; rfl) | (simp only [IntWalk.i64_left, *]; done) | (simp only [IntWalk.i64_left, *]; rfl)
    · refine tv rfl (by rfl) ?_ (by exact h _ w7 rfl (Below.refl _ _))
      go_simp <;> first | rfl | (simp only [IntWalk.i64_left]; rfl) | (simp only [IntWalk.i64_left, *]; done) | (simp only [IntWalk.i64_left, *]; rfl)
    · have e30_ : X 30 = _ := hD 30 (by decide) rfl
      refine tv rfl (by simp only [e30_]; rfl) ?_ (by exact h _ w7 rfl (Below.refl _ _))
      simp only [e30_]; go_simp <;> first | rfl | (simp only [IntWalk.i64_left]; rfl) | (simp only [IntWalk.i64_left, *]; done) | (simp only [IntWalk.i64_left, *]; rfl)
    · have e31_ : X 31 = _ := hD 31 (by decide) rfl
      have hv := hv.below (show Keep [] _ _ from hb).nil
      have c0_ := hv.at 0 rfl
      have c1_ := hv.at 1 rfl
      have c2_ := hv.at 2 rfl
      refine tv rfl (by simp only [e31_]; rfl) ?_ (by exact h _ w7 rfl (Below.refl _ _))
      simp only [e31_]; go_simp <;> first | rfl | (simp only [IntWalk.i64_left]; rfl) | (simp only [IntWalk.i64_left, *]; done) | (simp only [IntWalk.i64_left, *]; rfl)
    · refine tv rfl (by rfl) ?_ (by exact h _ w7 rfl (Below.refl _ _))
      go_simp <;> first | rfl | (simp only [IntWalk.i64_left]; rfl) | (simp only [IntWalk.i64_left, *]; done) | (simp only [IntWalk.i64_left, *]; rfl)
    · have e33_ : X 33 = _ := hD 33 (by decide) rfl
      refine tv rfl (by simp only [e33_]; rfl) ?_ (by exact h _ w7 rfl (Below.refl _ _))
      simp only [e33_]; go_simp <;> first | rfl | (simp only [IntWalk.i64_left]; rfl) | (simp only [IntWalk.i64_left, *]; done) | (simp only [IntWalk.i64_left, *]; rfl)
    · have e34_ : X 34 = _ := hD 34 (by decide) rfl
      have hv := hv.below (show Keep [] _ _ from hb).nil
      have c0_ := hv.at 3 rfl
      have c1_ := hv.at 4 rfl
      have c2_ := hv.at 5 rfl
      refine tv rfl (by simp only [e34_]; rfl) ?_ (by exact h _ w7 rfl (Below.refl _ _))
      simp only [e34_]; go_simp <;> first | rfl | (simp only [IntWalk.i64_left]; rfl) | (simp only [IntWalk.i64_left, *]; done) | (simp only [IntWalk.i64_left, *]; rfl)
    · refine tv rfl (by rfl) ?_ (by exact h _ w7 rfl (Below.refl _ _))
      go_simp <;> first | rfl | (simp only [IntWalk.i64_left]; rfl) | (simp only [IntWalk.i64_left, *]; done) | (simp only [IntWalk.i64_left, *]; rfl)
    · have e36_ : X 36 = _ := hD 36 (by decide) rfl
      refine tv rfl (by simp only [e36_]; rfl) ?_ (by exact h _ w7 rfl (Below.refl _ _))
      simp only [e36_]; go_simp <;> first | rfl | (simp only [IntWalk.i64_left]; rfl) | (simp only [IntWalk.i64_left, *]; done) | (simp only [IntWalk.i64_left, *]; rfl)
    · have e37_ : X 37 = _ := hD 37 (by decide) rfl
      have hv := hv.below (show Keep [] _ _ from hb).nil
      have c0_ := hv.at 3 rfl
      have c1_ := hv.at 4 rfl
      have c2_ := hv.at 5 rfl
      refine tv rfl (by simp only [e37_]; rfl) ?_ (by exact h _ w7 rfl (Below.refl _ _))
      simp only [e37_]; go_simp <;> first | rfl | (simp only [IntWalk.i64_left]; rfl) | (simp only [IntWalk.i64_left, *]; done) | (simp only [IntWalk.i64_left, *]; rfl)
    · refine tv rfl (by rfl) ?_ (by exact h _ w7 rfl (Below.refl _ _))
      go_simp <;> first | rfl | (simp only [IntWalk.i64_left]; rfl) | (simp only [IntWalk.i64_left, *]; done) | (simp only [IntWalk.i64_left, *]; rfl)
    · have e39_ : X 39 = _ := hD 39 (by decide) rfl
      refine tv rfl (by simp only [e39_]; rfl) ?_ (by exact h _ w7 rfl (Below.refl _ _))
      simp only [e39_]; go_simp <;> first | rfl | (simp only [IntWalk.i64_left]; rfl) | (simp only [IntWalk.i64_left, *]; done) | (simp only [IntWalk.i64_left, *]; rfl)
    · have e40_ : X 40 = _ := hD 40 (by decide) rfl
      have hv := hv.below (show Keep [] _ _ from hb).nil
      have c0_ := hv.at 3 rfl
      have c1_ := hv.at 4 rfl
      have c2_ := hv.at 5 rfl
      refine tv rfl (by simp only [e40_]; rfl) ?_ (by exact h _ w7 rfl (Below.refl _ _))
      simp only [e40_]; go_simp <;> first | rfl | (simp only [IntWalk.i64_left]; rfl) | (simp only [IntWalk.i64_left, *]; done) | (simp only [IntWalk.i64_left, *]; rfl)
    · have e38_ : X 38 = _ := hD 38 (by decide) rfl
      have e41_ : X 41 = _ := hD 41 (by decide) rfl
      refine wpOp_call (i := 42) (f := 16) (args := #[.agg #[.int .i64 x3, .int .i64 x4, .int .i64 x5], .agg #[.int .i64 x3, .int .i64 x4, .int .i64 x5]]) 62 rfl rfl (by simp only [e38_, e41_]; rfl) (by simp only [e38_, e41_]; go_simp) ?_
      refine (add_r x3 x4 x5 x3 x4 x5 _).mono ?_
      rintro e w8 ⟨rfl, hk⟩
      exact ⟨_, rfl, h _ w8 rfl hk⟩
    · refine tv rfl (by rfl) ?_ (by exact h _ w7 rfl (Below.refl _ _))
      go_simp <;> first | rfl | (simp only [IntWalk.i64_left]; rfl) | (simp only [IntWalk.i64_left, *]; done) | (simp only [IntWalk.i64_left, *]; rfl)
    · have e43_ : X 43 = _ := hD 43 (by decide) rfl
      refine tv rfl (by simp only [e43_]; rfl) ?_ (by exact h _ w7 rfl (Below.refl _ _))
      simp only [e43_]; go_simp <;> first | rfl | (simp only [IntWalk.i64_left]; rfl) | (simp only [IntWalk.i64_left, *]; done) | (simp only [IntWalk.i64_left, *]; rfl)
    · have e44_ : X 44 = _ := hD 44 (by decide) rfl
      have hv := hv.below (show Keep [] _ _ from hb).nil
      have c0_ := hv.at 0 rfl
      have c1_ := hv.at 1 rfl
      have c2_ := hv.at 2 rfl
      refine tv rfl (by simp only [e44_]; rfl) ?_ (by exact h _ w7 rfl (Below.refl _ _))
      simp only [e44_]; go_simp <;> first | rfl | (simp only [IntWalk.i64_left]; rfl) | (simp only [IntWalk.i64_left, *]; done) | (simp only [IntWalk.i64_left, *]; rfl)
    · have e42_ : X 42 = _ := hD 42 (by decide) rfl
      have e45_ : X 45 = _ := hD 45 (by decide) rfl
      refine wpOp_call (i := 46) (f := 18) (args := #[.agg #[.int .i64 (wrap64 (x3 + x3)), .int .i64 (wrap64 (x4 + x4)), .int .i64 (wrap64 (x5 + x5))], .agg #[.int .i64 x0, .int .i64 x1, .int .i64 x2]]) 66 rfl rfl (by simp only [e42_, e45_]; rfl) (by simp only [e42_, e45_]; go_simp) ?_
      refine (sub_r (wrap64 (x3 + x3)) (wrap64 (x4 + x4)) (wrap64 (x5 + x5)) x0 x1 x2 _).mono ?_
      rintro e w8 ⟨rfl, hk⟩
      exact ⟨_, rfl, h _ w8 rfl hk⟩
    · have e32_ : X 32 = _ := hD 32 (by decide) rfl
      have e35_ : X 35 = _ := hD 35 (by decide) rfl
      have e46_ : X 46 = _ := hD 46 (by decide) rfl
      refine tv rfl (by simp only [e32_, e35_, e46_]; rfl) ?_ (by exact h _ w7 rfl (Below.refl _ _))
      simp only [e32_, e35_, e46_]; go_simp <;> first | rfl | (simp only [IntWalk.i64_left]; rfl) | (simp only [IntWalk.i64_left, *]; done) | (simp only [IntWalk.i64_left, *]; rfl)
    · have e9_ : X 9 = _ := hD 9 (by decide) rfl
      have e10_ : X 10 = _ := hD 10 (by decide) rfl
      have e19_ : X 19 = _ := hD 19 (by decide) rfl
      have e29_ : X 29 = _ := hD 29 (by decide) rfl
      have e47_ : X 47 = _ := hD 47 (by decide) rfl
      refine wpOp_run rfl ?_
      simp only [e9_, e10_, e19_, e29_, e47_]; go_simp
      have h := h _ _ ⟨_, rfl, Var.new w7 [.int .i64 x0, .int .i64 x1, .int .i64 x2, .int .i64 x3, .int .i64 x4, .int .i64 x5, .int .i64 x6, .int .i64 x7, .int .i64 x8, .int .i64 r0, .int .i64 r1, .int .i64 r2, .int .i64 r3, .int .i64 r4, .int .i64 r5, .int .i64 r6, .int .i64 r7, .int .i64 r8, .int .i64 x0, .int .i64 x1, .int .i64 x2, .int .i64 r3, .int .i64 r4, .int .i64 r5, .int .i64 x6, .int .i64 x7, .int .i64 x8, .int .i64 x0, .int .i64 x1, .int .i64 x2, .int .i64 x3, .int .i64 x4, .int .i64 x5, .int .i64 x0, .int .i64 x1, .int .i64 x2, .int .i64 x0, .int .i64 x1, .int .i64 x2, .int .i64 x3, .int .i64 x4, .int .i64 x5, .int .i64 (wrap64 ((wrap64 (x3 + x3)) - x0)), .int .i64 (wrap64 ((wrap64 (x4 + x4)) - x1)), .int .i64 (wrap64 ((wrap64 (x5 + x5)) - x2))] 51⟩ (belowA _ _)
      have u9_ : ∀ v, upd X 48 v 9 = X 9 := fun _ => rfl
      have u10_ : ∀ v, upd X 48 v 10 = X 10 := fun _ => rfl
      have u19_ : ∀ v, upd X 48 v 19 = X 19 := fun _ => rfl
      have u29_ : ∀ v, upd X 48 v 29 = X 29 := fun _ => rfl
      have u47_ : ∀ v, upd X 48 v 47 = X 47 := fun _ => rfl
      simp only [u9_, u10_, u19_, u29_, u47_, e9_, e10_, e19_, e29_, e47_] at h
      exact h
    · obtain ⟨b48_, e48_, Q48_⟩ := hD 48 (by decide) rfl
      refine tv rfl (by simp only [e48_]; rfl) ?_ (by exact h _ w7 rfl (Below.refl _ _))
      simp only [e48_]; go_simp <;> first | rfl | (simp only [IntWalk.i64_left]; rfl) | (simp only [IntWalk.i64_left, *]; done) | (simp only [IntWalk.i64_left, *]; rfl)
    · refine tv rfl (by rfl) ?_ (by exact h _ w7 rfl (Below.refl _ _))
      go_simp <;> first | rfl | (simp only [IntWalk.i64_left]; rfl) | (simp only [IntWalk.i64_left, *]; done) | (simp only [IntWalk.i64_left, *]; rfl)
  case al => exact Each.nil
  case st => exact Each.nil
  case into => exact Each.nil
  case fin =>
    intro X3_ W4 hI
    have hE : Keep [] W3 W4 := hI.keep
    obtain ⟨b1, e48_, v1⟩ := hI.fact 48 (by decide) rfl rfl
    have e49_ : X3_ 49 = _ := hI.fact 49 (by decide) rfl rfl
    have e50_ : X3_ 50 = _ := hI.fact 50 (by decide) rfl rfl
    have v0 := v0.below hE.nil
    have hv := hv.below hE.nil
    have hB := hB.trans (hE.nil.mono hB.size)
    simp only [e48_, e49_, e50_]
    clear e48_ e49_ e50_ hI hE
    clear v0
    clear hv
    go_wp2_with fail
    go_loopw [70] (fun i wr => ∃ k : Nat, k ≤ 5 ∧ i = .int .i64 (k : Int) ∧ Below w.heap.size w wr ∧ Var wr b1 [.int .i64 x0, .int .i64 x1, .int .i64 x2, .int .i64 x3, .int .i64 x4, .int .i64 x5, .int .i64 x6, .int .i64 x7, .int .i64 x8, .int .i64 r0, .int .i64 r1, .int .i64 r2, .int .i64 r3, .int .i64 r4, .int .i64 r5, .int .i64 r6, .int .i64 r7, .int .i64 r8, .int .i64 x0, .int .i64 x1, .int .i64 x2, .int .i64 r3, .int .i64 r4, .int .i64 r5, .int .i64 x6, .int .i64 x7, .int .i64 x8, .int .i64 x0, .int .i64 x1, .int .i64 x2, .int .i64 x3, .int .i64 x4, .int .i64 x5, .int .i64 x0, .int .i64 x1, .int .i64 x2, .int .i64 x0, .int .i64 x1, .int .i64 x2, .int .i64 x3, .int .i64 x4, .int .i64 x5, .int .i64 (wrap64 ((wrap64 (x3 + x3)) - x0)), .int .i64 (wrap64 ((wrap64 (x4 + x4)) - x1)), .int .i64 (wrap64 ((wrap64 (x5 + x5)) - x2))]) (fun i _ => 5 - (intOf i).toNat)
    case atStart => exact ⟨0, by omega, rfl, hB, v1⟩
    case round =>
      clear hB v1
      obtain ⟨k, hk, rfl, hB, v1⟩ := hrel
      by_cases hlt : k < 5
      · have hk5 : (k : Int) < 5 := by omega
        obtain ⟨e1, e2, e3, f1, f2, f3, i1, i2, i3, q0, q1, q2, q3, q4, q5, q6, q7, q8⟩ : ∃ e1 e2 e3 f1 f2 f3 i1 i2 i3 : Int, ([.int .i64 x0, .int .i64 x1, .int .i64 x2, .int .i64 x3, .int .i64 x4, .int .i64 x5, .int .i64 x6, .int .i64 x7, .int .i64 x8, .int .i64 r0, .int .i64 r1, .int .i64 r2, .int .i64 r3, .int .i64 r4, .int .i64 r5, .int .i64 r6, .int .i64 r7, .int .i64 r8, .int .i64 x0, .int .i64 x1, .int .i64 x2, .int .i64 r3, .int .i64 r4, .int .i64 r5, .int .i64 x6, .int .i64 x7, .int .i64 x8, .int .i64 x0, .int .i64 x1, .int .i64 x2, .int .i64 x3, .int .i64 x4, .int .i64 x5, .int .i64 x0, .int .i64 x1, .int .i64 x2, .int .i64 x0, .int .i64 x1, .int .i64 x2, .int .i64 x3, .int .i64 x4, .int .i64 x5, .int .i64 (wrap64 ((wrap64 (x3 + x3)) - x0)), .int .i64 (wrap64 ((wrap64 (x4 + x4)) - x1)), .int .i64 (wrap64 ((wrap64 (x5 + x5)) - x2))] : List Value)[k * 9]? = some (.int .i64 e1) ∧ ([.int .i64 x0, .int .i64 x1, .int .i64 x2, .int .i64 x3, .int .i64 x4, .int .i64 x5, .int .i64 x6, .int .i64 x7, .int .i64 x8, .int .i64 r0, .int .i64 r1, .int .i64 r2, .int .i64 r3, .int .i64 r4, .int .i64 r5, .int .i64 r6, .int .i64 r7, .int .i64 r8, .int .i64 x0, .int .i64 x1, .int .i64 x2, .int .i64 r3, .int .i64 r4, .int .i64 r5, .int .i64 x6, .int .i64 x7, .int .i64 x8, .int .i64 x0, .int .i64 x1, .int .i64 x2, .int .i64 x3, .int .i64 x4, .int .i64 x5, .int .i64 x0, .int .i64 x1, .int .i64 x2, .int .i64 x0, .int .i64 x1, .int .i64 x2, .int .i64 x3, .int .i64 x4, .int .i64 x5, .int .i64 (wrap64 ((wrap64 (x3 + x3)) - x0)), .int .i64 (wrap64 ((wrap64 (x4 + x4)) - x1)), .int .i64 (wrap64 ((wrap64 (x5 + x5)) - x2))] : List Value)[k * 9 + 1]? = some (.int .i64 e2) ∧ ([.int .i64 x0, .int .i64 x1, .int .i64 x2, .int .i64 x3, .int .i64 x4, .int .i64 x5, .int .i64 x6, .int .i64 x7, .int .i64 x8, .int .i64 r0, .int .i64 r1, .int .i64 r2, .int .i64 r3, .int .i64 r4, .int .i64 r5, .int .i64 r6, .int .i64 r7, .int .i64 r8, .int .i64 x0, .int .i64 x1, .int .i64 x2, .int .i64 r3, .int .i64 r4, .int .i64 r5, .int .i64 x6, .int .i64 x7, .int .i64 x8, .int .i64 x0, .int .i64 x1, .int .i64 x2, .int .i64 x3, .int .i64 x4, .int .i64 x5, .int .i64 x0, .int .i64 x1, .int .i64 x2, .int .i64 x0, .int .i64 x1, .int .i64 x2, .int .i64 x3, .int .i64 x4, .int .i64 x5, .int .i64 (wrap64 ((wrap64 (x3 + x3)) - x0)), .int .i64 (wrap64 ((wrap64 (x4 + x4)) - x1)), .int .i64 (wrap64 ((wrap64 (x5 + x5)) - x2))] : List Value)[k * 9 + 2]? = some (.int .i64 e3) ∧ ([.int .i64 x0, .int .i64 x1, .int .i64 x2, .int .i64 x3, .int .i64 x4, .int .i64 x5, .int .i64 x6, .int .i64 x7, .int .i64 x8, .int .i64 r0, .int .i64 r1, .int .i64 r2, .int .i64 r3, .int .i64 r4, .int .i64 r5, .int .i64 r6, .int .i64 r7, .int .i64 r8, .int .i64 x0, .int .i64 x1, .int .i64 x2, .int .i64 r3, .int .i64 r4, .int .i64 r5, .int .i64 x6, .int .i64 x7, .int .i64 x8, .int .i64 x0, .int .i64 x1, .int .i64 x2, .int .i64 x3, .int .i64 x4, .int .i64 x5, .int .i64 x0, .int .i64 x1, .int .i64 x2, .int .i64 x0, .int .i64 x1, .int .i64 x2, .int .i64 x3, .int .i64 x4, .int .i64 x5, .int .i64 (wrap64 ((wrap64 (x3 + x3)) - x0)), .int .i64 (wrap64 ((wrap64 (x4 + x4)) - x1)), .int .i64 (wrap64 ((wrap64 (x5 + x5)) - x2))] : List Value)[k * 9 + 3]? = some (.int .i64 f1) ∧ ([.int .i64 x0, .int .i64 x1, .int .i64 x2, .int .i64 x3, .int .i64 x4, .int .i64 x5, .int .i64 x6, .int .i64 x7, .int .i64 x8, .int .i64 r0, .int .i64 r1, .int .i64 r2, .int .i64 r3, .int .i64 r4, .int .i64 r5, .int .i64 r6, .int .i64 r7, .int .i64 r8, .int .i64 x0, .int .i64 x1, .int .i64 x2, .int .i64 r3, .int .i64 r4, .int .i64 r5, .int .i64 x6, .int .i64 x7, .int .i64 x8, .int .i64 x0, .int .i64 x1, .int .i64 x2, .int .i64 x3, .int .i64 x4, .int .i64 x5, .int .i64 x0, .int .i64 x1, .int .i64 x2, .int .i64 x0, .int .i64 x1, .int .i64 x2, .int .i64 x3, .int .i64 x4, .int .i64 x5, .int .i64 (wrap64 ((wrap64 (x3 + x3)) - x0)), .int .i64 (wrap64 ((wrap64 (x4 + x4)) - x1)), .int .i64 (wrap64 ((wrap64 (x5 + x5)) - x2))] : List Value)[k * 9 + 4]? = some (.int .i64 f2) ∧ ([.int .i64 x0, .int .i64 x1, .int .i64 x2, .int .i64 x3, .int .i64 x4, .int .i64 x5, .int .i64 x6, .int .i64 x7, .int .i64 x8, .int .i64 r0, .int .i64 r1, .int .i64 r2, .int .i64 r3, .int .i64 r4, .int .i64 r5, .int .i64 r6, .int .i64 r7, .int .i64 r8, .int .i64 x0, .int .i64 x1, .int .i64 x2, .int .i64 r3, .int .i64 r4, .int .i64 r5, .int .i64 x6, .int .i64 x7, .int .i64 x8, .int .i64 x0, .int .i64 x1, .int .i64 x2, .int .i64 x3, .int .i64 x4, .int .i64 x5, .int .i64 x0, .int .i64 x1, .int .i64 x2, .int .i64 x0, .int .i64 x1, .int .i64 x2, .int .i64 x3, .int .i64 x4, .int .i64 x5, .int .i64 (wrap64 ((wrap64 (x3 + x3)) - x0)), .int .i64 (wrap64 ((wrap64 (x4 + x4)) - x1)), .int .i64 (wrap64 ((wrap64 (x5 + x5)) - x2))] : List Value)[k * 9 + 5]? = some (.int .i64 f3) ∧ ([.int .i64 x0, .int .i64 x1, .int .i64 x2, .int .i64 x3, .int .i64 x4, .int .i64 x5, .int .i64 x6, .int .i64 x7, .int .i64 x8, .int .i64 r0, .int .i64 r1, .int .i64 r2, .int .i64 r3, .int .i64 r4, .int .i64 r5, .int .i64 r6, .int .i64 r7, .int .i64 r8, .int .i64 x0, .int .i64 x1, .int .i64 x2, .int .i64 r3, .int .i64 r4, .int .i64 r5, .int .i64 x6, .int .i64 x7, .int .i64 x8, .int .i64 x0, .int .i64 x1, .int .i64 x2, .int .i64 x3, .int .i64 x4, .int .i64 x5, .int .i64 x0, .int .i64 x1, .int .i64 x2, .int .i64 x0, .int .i64 x1, .int .i64 x2, .int .i64 x3, .int .i64 x4, .int .i64 x5, .int .i64 (wrap64 ((wrap64 (x3 + x3)) - x0)), .int .i64 (wrap64 ((wrap64 (x4 + x4)) - x1)), .int .i64 (wrap64 ((wrap64 (x5 + x5)) - x2))] : List Value)[k * 9 + 6]? = some (.int .i64 i1) ∧ ([.int .i64 x0, .int .i64 x1, .int .i64 x2, .int .i64 x3, .int .i64 x4, .int .i64 x5, .int .i64 x6, .int .i64 x7, .int .i64 x8, .int .i64 r0, .int .i64 r1, .int .i64 r2, .int .i64 r3, .int .i64 r4, .int .i64 r5, .int .i64 r6, .int .i64 r7, .int .i64 r8, .int .i64 x0, .int .i64 x1, .int .i64 x2, .int .i64 r3, .int .i64 r4, .int .i64 r5, .int .i64 x6, .int .i64 x7, .int .i64 x8, .int .i64 x0, .int .i64 x1, .int .i64 x2, .int .i64 x3, .int .i64 x4, .int .i64 x5, .int .i64 x0, .int .i64 x1, .int .i64 x2, .int .i64 x0, .int .i64 x1, .int .i64 x2, .int .i64 x3, .int .i64 x4, .int .i64 x5, .int .i64 (wrap64 ((wrap64 (x3 + x3)) - x0)), .int .i64 (wrap64 ((wrap64 (x4 + x4)) - x1)), .int .i64 (wrap64 ((wrap64 (x5 + x5)) - x2))] : List Value)[k * 9 + 7]? = some (.int .i64 i2) ∧ ([.int .i64 x0, .int .i64 x1, .int .i64 x2, .int .i64 x3, .int .i64 x4, .int .i64 x5, .int .i64 x6, .int .i64 x7, .int .i64 x8, .int .i64 r0, .int .i64 r1, .int .i64 r2, .int .i64 r3, .int .i64 r4, .int .i64 r5, .int .i64 r6, .int .i64 r7, .int .i64 r8, .int .i64 x0, .int .i64 x1, .int .i64 x2, .int .i64 r3, .int .i64 r4, .int .i64 r5, .int .i64 x6, .int .i64 x7, .int .i64 x8, .int .i64 x0, .int .i64 x1, .int .i64 x2, .int .i64 x3, .int .i64 x4, .int .i64 x5, .int .i64 x0, .int .i64 x1, .int .i64 x2, .int .i64 x0, .int .i64 x1, .int .i64 x2, .int .i64 x3, .int .i64 x4, .int .i64 x5, .int .i64 (wrap64 ((wrap64 (x3 + x3)) - x0)), .int .i64 (wrap64 ((wrap64 (x4 + x4)) - x1)), .int .i64 (wrap64 ((wrap64 (x5 + x5)) - x2))] : List Value)[k * 9 + 8]? = some (.int .i64 i3) := by
          match k, hlt with
          | 0, _ | 1, _ | 2, _ | 3, _ | 4, _ => exact ⟨_, _, _, _, _, _, _, _, _, rfl, rfl, rfl, rfl, rfl, rfl, rfl, rfl, rfl⟩
        have d0 := v1.at (k * 9) q0
        have d1 := v1.at (k * 9 + 1) q1
        have d2 := v1.at (k * 9 + 2) q2
        have d3 := v1.at (k * 9 + 3) q3
        have d4 := v1.at (k * 9 + 4) q4
        have d5 := v1.at (k * 9 + 5) q5
        have d6 := v1.at (k * 9 + 6) q6
        have d7 := v1.at (k * 9 + 7) q7
        have d8 := v1.at (k * 9 + 8) q8
        clear q0 q1 q2 q3 q4 q5 q6 q7 q8
        go_wp2_with fail
        refine (through_p e1 e2 e3 f1 f2 f3 i1 i2 i3 _).mono ?_
        rintro e W5 ⟨rfl, hk⟩
        try simp only [Pl]
        have hs : Below wr.heap.size wr W5 := Below.trans (by repeat (first | exact Below.refl _ _ | refine Below.alloc ?_ (by first | omega | (simp; try omega)) _ | refine Below.setCell ?_ (by first | omega | (simp; try omega)) _)) (hk.mono (by first | omega | (simp; try omega)))
        have v1 := v1.below hs
        have v2 : Var W5 (wr.heap.size) [.int .i64 e1, .int .i64 e2, .int .i64 e3, .int .i64 f1, .int .i64 f2, .int .i64 f3, .int .i64 i1, .int .i64 i2, .int .i64 i3] := Var.low ⟨by first | omega | (simp; try omega), by simp [Cel, go_sem]⟩ hk (by first | omega | (simp; try omega))
        obtain ⟨b2, hb2⟩ : ∃ b, wr.heap.size = b := ⟨_, rfl⟩
        have lob2 : w.heap.size ≤ b2 := by have := hB.size; omega
        rw [hb2] at v2
        try rw [hb2]
        have hB := hB.trans (hs.mono hB.size)
        clear hb2 hs hk
        clear d0 d1 d2 d3 d4 d5 d6 d7 d8
        have cb2_0 := v2.at 0 rfl
        have ab2_0_1 : ∀ o0, (W5.alloc o0).cell? ⟨b2, 0, none⟩ = some (.int .i64 e1) := fun o0 => (v2.allocs1 o0).at 0 rfl
        have cb2_1 := v2.at 1 rfl
        have ab2_1_1 : ∀ o0, (W5.alloc o0).cell? ⟨b2, 1, none⟩ = some (.int .i64 e2) := fun o0 => (v2.allocs1 o0).at 1 rfl
        have cb2_2 := v2.at 2 rfl
        have ab2_2_1 : ∀ o0, (W5.alloc o0).cell? ⟨b2, 2, none⟩ = some (.int .i64 e3) := fun o0 => (v2.allocs1 o0).at 2 rfl
        have cb2_3 := v2.at 3 rfl
        have ab2_3_1 : ∀ o0, (W5.alloc o0).cell? ⟨b2, 3, none⟩ = some (.int .i64 f1) := fun o0 => (v2.allocs1 o0).at 3 rfl
        have cb2_4 := v2.at 4 rfl
        have ab2_4_1 : ∀ o0, (W5.alloc o0).cell? ⟨b2, 4, none⟩ = some (.int .i64 f2) := fun o0 => (v2.allocs1 o0).at 4 rfl
        have cb2_5 := v2.at 5 rfl
        have ab2_5_1 : ∀ o0, (W5.alloc o0).cell? ⟨b2, 5, none⟩ = some (.int .i64 f3) := fun o0 => (v2.allocs1 o0).at 5 rfl
        have cb2_6 := v2.at 6 rfl
        have ab2_6_1 : ∀ o0, (W5.alloc o0).cell? ⟨b2, 6, none⟩ = some (.int .i64 i1) := fun o0 => (v2.allocs1 o0).at 6 rfl
        have cb2_7 := v2.at 7 rfl
        have ab2_7_1 : ∀ o0, (W5.alloc o0).cell? ⟨b2, 7, none⟩ = some (.int .i64 i2) := fun o0 => (v2.allocs1 o0).at 7 rfl
        have cb2_8 := v2.at 8 rfl
        have ab2_8_1 : ∀ o0, (W5.alloc o0).cell? ⟨b2, 8, none⟩ = some (.int .i64 i3) := fun o0 => (v2.allocs1 o0).at 8 rfl
        go_wp2_with fail
        refine (through_r e1 e2 e3 f1 f2 f3 i1 i2 i3 _).mono ?_
        rintro e W6 ⟨rfl, hk⟩
        try simp only [Pl]
        have hs : Below W5.heap.size W5 W6 := Below.trans (by repeat (first | exact Below.refl _ _ | refine Below.alloc ?_ (by first | omega | (simp; try omega)) _ | refine Below.setCell ?_ (by first | omega | (simp; try omega)) _)) (hk.mono (by first | omega | (simp; try omega)))
        have v1 := v1.below hs
        have v2 := v2.below hs
        have v3 : Var W6 (W5.heap.size) [.int .i64 (thI e1 e2 e3 f1 f2 f3 i1 i2 i3), .int .i64 (thJ e1 e2 e3 f1 f2 f3 i1 i2 i3), .int .i64 (thK e1 e2 e3 f1 f2 f3 i1 i2 i3), .int .i64 (thD e1 e2 e3 f1 f2 f3 i1 i2 i3)] := Var.low ⟨by first | omega | (simp; try omega), by simp [Cel, go_sem]⟩ hk (by first | omega | (simp; try omega))
        obtain ⟨b3, hb3⟩ : ∃ b, W5.heap.size = b := ⟨_, rfl⟩
        have lob3 : w.heap.size ≤ b3 := by have := hB.size; omega
        rw [hb3] at v3
        try rw [hb3]
        have hB := hB.trans (hs.mono hB.size)
        clear cb2_0 cb2_1 cb2_2 cb2_3 cb2_4 cb2_5 cb2_6 cb2_7 cb2_8 hb3 hs hk ab2_0_1 ab2_1_1 ab2_2_1 ab2_3_1 ab2_4_1 ab2_5_1 ab2_6_1 ab2_7_1 ab2_8_1
        have cb3_0 := v3.at 0 rfl
        have ab3_0_1 : ∀ o0, (W6.alloc o0).cell? ⟨b3, 0, none⟩ = some (.int .i64 (thI e1 e2 e3 f1 f2 f3 i1 i2 i3)) := fun o0 => (v3.allocs1 o0).at 0 rfl
        have cb3_1 := v3.at 1 rfl
        have ab3_1_1 : ∀ o0, (W6.alloc o0).cell? ⟨b3, 1, none⟩ = some (.int .i64 (thJ e1 e2 e3 f1 f2 f3 i1 i2 i3)) := fun o0 => (v3.allocs1 o0).at 1 rfl
        have cb3_2 := v3.at 2 rfl
        have ab3_2_1 : ∀ o0, (W6.alloc o0).cell? ⟨b3, 2, none⟩ = some (.int .i64 (thK e1 e2 e3 f1 f2 f3 i1 i2 i3)) := fun o0 => (v3.allocs1 o0).at 2 rfl
        have cb3_3 := v3.at 3 rfl
        have ab3_3_1 : ∀ o0, (W6.alloc o0).cell? ⟨b3, 3, none⟩ = some (.int .i64 (thD e1 e2 e3 f1 f2 f3 i1 i2 i3)) := fun o0 => (v3.allocs1 o0).at 3 rfl
        go_wp2_with fail
        have hBs := hB.size
        go_roundw
        case rel => exact ⟨k + 1, by omega, by simp, by repeat (first | exact hB | refine Below.alloc ?_ (by first | omega | (simp; try omega)) _ | refine Below.setCell ?_ (by first | omega | (simp; try omega)) _), v1.allocs1 _⟩
        case measure => simp [intOf]; omega
      · obtain rfl : k = 5 := by omega
        go_wp2_with fail
        have hBs := hB.size
        go_ret
        exact ⟨rfl, by repeat (first | exact hB | refine Below.alloc ?_ (by first | omega | (simp; try omega)) _ | refine Below.setCell ?_ (by first | omega | (simp; try omega)) _)⟩


set_option maxRecDepth 100000 in
set_option maxHeartbeats 8000000 in
theorem thr_none  (r0 r1 r2 r3 r4 r5 r6 r7 r8 : Int) (w : World) (hl : Lst w none 0 w.heap.size) : Calls Try.prog 5 #[.slice none 0 0, .agg #[.int .i64 r0, .int .i64 r1, .int .i64 r2, .int .i64 r3, .int .i64 r4, .int .i64 r5, .int .i64 r6, .int .i64 r7, .int .i64 r8]] w (Gives w (.bool true)) := by
  go_enter Try.func5, Try.ntmps5
  have hB := Below.refl w.heap.size w
  go_wp2_with fail
  refine (sanity_true _).mono ?_
  rintro e W1 ⟨rfl, hk⟩
  have hs : Below w.heap.size w W1 := Below.trans (by repeat (first | exact Below.refl _ _ | refine Below.alloc ?_ (by first | omega | (simp; try omega)) _ | refine Below.setCell ?_ (by first | omega | (simp; try omega)) _)) (hk.mono (by first | omega | (simp; try omega)))
  have hl := hl.below hs
  have v0 : Var W1 (w.heap.size) [.int .i64 r0, .int .i64 r1, .int .i64 r2, .int .i64 r3, .int .i64 r4, .int .i64 r5, .int .i64 r6, .int .i64 r7, .int .i64 r8] := Var.low ⟨by first | omega | (simp; try omega), by simp [Cel, go_sem]⟩ hk (by first | omega | (simp; try omega))
  obtain ⟨b0, hb0⟩ : ∃ b, w.heap.size = b := ⟨_, rfl⟩
  have lob0 : w.heap.size ≤ b0 := by have := hB.size; omega
  rw [hb0] at v0
  try rw [hb0]
  have hB := hB.trans (hs.mono hB.size)
  clear hb0 hs hk
  go_wp2_with fail
  refine (points_r none 0 0 3 (by omega) (by decide) (by decide) _ (hl.mono hB.size (by omega))).mono ?_
  rintro e W2 ⟨g, c, xs, rfl, hxl, hxb, hv, hg, hk⟩
  obtain ⟨x0, x1, x2, x3, x4, x5, x6, x7, x8, rfl⟩ := list9 hxl
  replace hv : Var W2 g [.int .i64 x0, .int .i64 x1, .int .i64 x2, .int .i64 x3, .int .i64 x4, .int .i64 x5, .int .i64 x6, .int .i64 x7, .int .i64 x8] := hv
  clear hxl hxb hg
  have hs := hk
  have v0 := v0.below hs
  have hl := hl.below hs
  have hB := hB.trans (hs.mono hB.size)
  clear hs hk
  clear hl
  go_wp2_with fail
  refine wp_region_dag (by kernel_rfl) ?_
  intro W3 hk
  have hs := hk
  have v0 := v0.below hs
  have hv := hv.below hs
  have hB := hB.trans (hs.mono hB.size)
  clear hs hk
  refine dagV (fun _ => trivial) 51 ?hn (fun X => ⟨#[.slice none 0 0, .agg #[.int .i64 r0, .int .i64 r1, .int .i64 r2, .int .i64 r3, .int .i64 r4, .int .i64 r5, .int .i64 r6, .int .i64 r7, .int .i64 r8], undef, .pointer (some ⟨b0, 0, none⟩), .bool false, .bool true, .slice (some ⟨g, 0, none⟩) 3 c, undef, undef, undef, undef, undef, undef, .bool true, .slice none 0 0, .slice none 0 0, .int .i64 0, .int .i64 0, .slice none 0 0, .slice (some ⟨g, 0, none⟩) 3 c, X 0, X 1, X 2, X 3, X 4, X 5, X 6, X 7, X 8, X 9, X 10, X 11, X 12, X 13, X 14, X 15, X 16, X 17, X 18, X 19, X 20, X 21, X 22, X 23, X 24, X 25, X 26, X 27, X 28, X 29, X 30, X 31, X 32, X 33, X 34, X 35, X 36, X 37, X 38, X 39, X 40, X 41, X 42, X 43, X 44, X 45, X 46, X 47, X 48, X 49, X 50, undef, undef, undef, undef, undef, undef, undef, undef, undef, undef, undef, undef, undef, undef, undef, undef, undef, undef, undef, undef, undef, undef, undef, undef, undef, undef, undef, undef, undef, undef, undef, undef, undef], []⟩) [(0, 0, 0), (0, 0, 0), (0, 0, 0), (0, 0, 0), (0, 0, 0), (0, 0, 0), (0, 0, 0), (0, 0, 0), (0, 0, 0), (0, 0, 0), (0, 0, 0), (0, 0, 0), (0, 0, 0), (0, 0, 0), (0, 0, 0), (0, 0, 0), (0, 0, 0), (0, 0, 0), (0, 0, 0), (0, 0, 0), (0, 0, 0), (0, 0, 0), (0, 0, 0), (0, 0, 0), (0, 0, 0), (0, 0, 0), (0, 0, 0), (0, 0, 0), (0, 0, 0), (0, 0, 0), (0, 0, 0), (0, 0, 0), (0, 0, 0), (0, 0, 0), (0, 0, 0), (0, 0, 0), (0, 0, 0), (0, 0, 0), (0, 0, 0), (0, 0, 0), (0, 0, 0), (0, 0, 0), (0, 0, 0), (0, 0, 0), (0, 0, 0), (0, 0, 0), (0, 0, 0), (0, 0, 0), (0, 0, 0), (0, 0, 0), (0, 0, 0)] (fun _ => []) [.val (.slice (some ⟨g, 0, none⟩) 3 c), .val (.pointer (some ⟨g, 0, none⟩)), .val (.agg #[.int .i64 x0, .int .i64 x1, .int .i64 x2]), .val (.slice (some ⟨g, 0, none⟩) 3 c), .val (.pointer (some ⟨g, 3, none⟩)), .val (.agg #[.int .i64 x3, .int .i64 x4, .int .i64 x5]), .val (.slice (some ⟨g, 0, none⟩) 3 c), .val (.pointer (some ⟨g, 6, none⟩)), .val (.agg #[.int .i64 x6, .int .i64 x7, .int .i64 x8]), .val (.agg #[.int .i64 x0, .int .i64 x1, .int .i64 x2, .int .i64 x3, .int .i64 x4, .int .i64 x5, .int .i64 x6, .int .i64 x7, .int .i64 x8]), .val (.agg #[.int .i64 r0, .int .i64 r1, .int .i64 r2, .int .i64 r3, .int .i64 r4, .int .i64 r5, .int .i64 r6, .int .i64 r7, .int .i64 r8]), .val (.slice (some ⟨g, 0, none⟩) 3 c), .val (.pointer (some ⟨g, 0, none⟩)), .val (.agg #[.int .i64 x0, .int .i64 x1, .int .i64 x2]), .val (.pointer (some ⟨b0, 3, none⟩)), .val (.agg #[.int .i64 r3, .int .i64 r4, .int .i64 r5]), .val (.slice (some ⟨g, 0, none⟩) 3 c), .val (.pointer (some ⟨g, 6, none⟩)), .val (.agg #[.int .i64 x6, .int .i64 x7, .int .i64 x8]), .val (.agg #[.int .i64 x0, .int .i64 x1, .int .i64 x2, .int .i64 r3, .int .i64 r4, .int .i64 r5, .int .i64 x6, .int .i64 x7, .int .i64 x8]), .val (.slice (some ⟨g, 0, none⟩) 3 c), .val (.pointer (some ⟨g, 0, none⟩)), .val (.agg #[.int .i64 x0, .int .i64 x1, .int .i64 x2]), .val (.slice (some ⟨g, 0, none⟩) 3 c), .val (.pointer (some ⟨g, 3, none⟩)), .val (.agg #[.int .i64 x3, .int .i64 x4, .int .i64 x5]), .val (.slice (some ⟨g, 0, none⟩) 3 c), .val (.pointer (some ⟨g, 0, none⟩)), .val (.agg #[.int .i64 x0, .int .i64 x1, .int .i64 x2]), .val (.agg #[.int .i64 x0, .int .i64 x1, .int .i64 x2, .int .i64 x3, .int .i64 x4, .int .i64 x5, .int .i64 x0, .int .i64 x1, .int .i64 x2]), .val (.slice (some ⟨g, 0, none⟩) 3 c), .val (.pointer (some ⟨g, 0, none⟩)), .val (.agg #[.int .i64 x0, .int .i64 x1, .int .i64 x2]), .val (.slice (some ⟨g, 0, none⟩) 3 c), .val (.pointer (some ⟨g, 3, none⟩)), .val (.agg #[.int .i64 x3, .int .i64 x4, .int .i64 x5]), .val (.slice (some ⟨g, 0, none⟩) 3 c), .val (.pointer (some ⟨g, 3, none⟩)), .val (.agg #[.int .i64 x3, .int .i64 x4, .int .i64 x5]), .val (.slice (some ⟨g, 0, none⟩) 3 c), .val (.pointer (some ⟨g, 3, none⟩)), .val (.agg #[.int .i64 x3, .int .i64 x4, .int .i64 x5]), .val (.agg #[.int .i64 (wrap64 (x3 + x3)), .int .i64 (wrap64 (x4 + x4)), .int .i64 (wrap64 (x5 + x5))]), .val (.slice (some ⟨g, 0, none⟩) 3 c), .val (.pointer (some ⟨g, 0, none⟩)), .val (.agg #[.int .i64 x0, .int .i64 x1, .int .i64 x2]), .val (.agg #[.int .i64 (wrap64 ((wrap64 (x3 + x3)) - x0)), .int .i64 (wrap64 ((wrap64 (x4 + x4)) - x1)), .int .i64 (wrap64 ((wrap64 (x5 + x5)) - x2))]), .val (.agg #[.int .i64 x0, .int .i64 x1, .int .i64 x2, .int .i64 x3, .int .i64 x4, .int .i64 x5, .int .i64 (wrap64 ((wrap64 (x3 + x3)) - x0)), .int .i64 (wrap64 ((wrap64 (x4 + x4)) - x1)), .int .i64 (wrap64 ((wrap64 (x5 + x5)) - x2))]), .sl 5 [.int .i64 x0, .int .i64 x1, .int .i64 x2, .int .i64 x3, .int .i64 x4, .int .i64 x5, .int .i64 x6, .int .i64 x7, .int .i64 x8, .int .i64 r0, .int .i64 r1, .int .i64 r2, .int .i64 r3, .int .i64 r4, .int .i64 r5, .int .i64 r6, .int .i64 r7, .int .i64 r8, .int .i64 x0, .int .i64 x1, .int .i64 x2, .int .i64 r3, .int .i64 r4, .int .i64 r5, .int .i64 x6, .int .i64 x7, .int .i64 x8, .int .i64 x0, .int .i64 x1, .int .i64 x2, .int .i64 x3, .int .i64 x4, .int .i64 x5, .int .i64 x0, .int .i64 x1, .int .i64 x2, .int .i64 x0, .int .i64 x1, .int .i64 x2, .int .i64 x3, .int .i64 x4, .int .i64 x5, .int .i64 (wrap64 ((wrap64 (x3 + x3)) - x0)), .int .i64 (wrap64 ((wrap64 (x4 + x4)) - x1)), .int .i64 (wrap64 ((wrap64 (x5 + x5)) - x2))], .val (.int .i64 5), .val (.int .i64 0)] [[], [0], [1], [], [3], [4], [], [6], [7], [2, 5, 8], [], [], [11], [12], [], [14], [], [16], [17], [13, 15, 18], [], [20], [21], [], [23], [24], [], [26], [27], [22, 25, 28], [], [30], [31], [], [33], [34], [], [36], [37], [], [39], [40], [38, 41], [], [43], [44], [42, 45], [32, 35, 46], [9, 10, 19, 29, 47], [48], []] [0, 1, 2, 3, 4, 5, 6, 7, 8, 9, 10, 11, 12, 13, 14, 15, 16, 17, 18, 19, 20, 21, 22, 23, 24, 25, 26, 27, 28, 29, 30, 31, 32, 33, 34, 35, 36, 37, 38, 39, 40, 41, 42, 43, 44, 45, 46, 47, 48, 49, 50] [] [] [] (fun _ => 0) W3 (by kernel_rfl) (by kernel_rfl) (by kernel_rfl) (by kernel_rfl) (by kernel_rfl) ?dist ?olds ?op ?al ?st ?into ?fin (fun _ => undef) _ _ (by kernel_rfl) (of_decide_eq_true (by kernel_rfl)) (of_decide_eq_true (by kernel_rfl))
  case hn => rfl
  case dist => intro i hi j hj; simp at hi hj; try omega
  case olds => exact nofun
  case op =>
    repeat' first | exact Each.nil | refine Each.cons ?_ ?_
    all_goals intro X w7 H hb hD h
    · refine tv rfl (by rfl) ?_ (by exact h _ w7 rfl (Below.refl _ _))
      go_simp <;> first | rfl | (simp only [IntWalk.i64_left]; rfl) | (simp only [IntWalk.i64_left, *]; done) | (simp only [IntWalk.i64_left, *]; rfl)
    · have e0_ : X 0 = _ := hD 0 (by decide) rfl
      refine tv rfl (by simp only [e0_]; rfl) ?_ (by exact h _ w7 rfl (Below.refl _ _))
      simp only [e0_]; go_simp <;> first | rfl | (simp only [IntWalk.i64_left]; rfl) | (simp only [IntWalk.i64_left, *]; done) | (simp only [IntWalk.i64_left, *]; rfl)
    · have e1_ : X 1 = _ := hD 1 (by decide) rfl
      have hv := hv.below (show Keep [] _ _ from hb).nil
      have c0_ := hv.at 0 rfl
      have c1_ := hv.at 1 rfl
      have c2_ := hv.at 2 rfl
      refine tv rfl (by simp only [e1_]; rfl) ?_ (by exact h _ w7 rfl (Below.refl _ _))
      simp only [e1_]; go_simp <;> first | rfl | (simp only [IntWalk.i64_left]; rfl) | (simp only [IntWalk.i64_left, *]; done) | (simp only [IntWalk.i64_left, *]; rfl)
    · refine tv rfl (by rfl) ?_ (by exact h _ w7 rfl (Below.refl _ _))
      go_simp <;> first | rfl | (simp only [IntWalk.i64_left]; rfl) | (simp only [IntWalk.i64_left, *]; done) | (simp only [IntWalk.i64_left, *]; rfl)
    · have e3_ : X 3 = _ := hD 3 (by decide) rfl
      refine tv rfl (by simp only [e3_]; rfl) ?_ (by exact h _ w7 rfl (Below.refl _ _))
      simp only [e3_]; go_simp <;> first | rfl | (simp only [IntWalk.i64_left]; rfl) | (simp only [IntWalk.i64_left, *]; done) | (simp only [IntWalk.i64_left, *]; rfl)
    · have e4_ : X 4 = _ := hD 4 (by decide) rfl
      have hv := hv.below (show Keep [] _ _ from hb).nil
      have c0_ := hv.at 3 rfl
      have c1_ := hv.at 4 rfl
      have c2_ := hv.at 5 rfl
      refine tv rfl (by simp only [e4_]; rfl) ?_ (by exact h _ w7 rfl (Below.refl _ _))
      simp only [e4_]; go_simp <;> first | rfl | (simp only [IntWalk.i64_left]; rfl) | (simp only [IntWalk.i64_left, *]; done) | (simp only [IntWalk.i64_left, *]; rfl)
    · refine tv rfl (by rfl) ?_ (by exact h _ w7 rfl (Below.refl _ _))
      go_simp <;> first | rfl | (simp only [IntWalk.i64_left]; rfl) | (simp only [IntWalk.i64_left, *]; done) | (simp only [IntWalk.i64_left, *]; rfl)
    · have e6_ : X 6 = _ := hD 6 (by decide) rfl
      refine tv rfl (by simp only [e6_]; rfl) ?_ (by exact h _ w7 rfl (Below.refl _ _))
      simp only [e6_]; go_simp <;> first | rfl | (simp only [IntWalk.i64_left]; rfl) | (simp only [IntWalk.i64_left, *]; done) | (simp only [IntWalk.i64_left, *]; rfl)
    · have e7_ : X 7 = _ := hD 7 (by decide) rfl
      have hv := hv.below (show Keep [] _ _ from hb).nil
      have c0_ := hv.at 6 rfl
      have c1_ := hv.at 7 rfl
      have c2_ := hv.at 8 rfl
      refine tv rfl (by simp only [e7_]; rfl) ?_ (by exact h _ w7 rfl (Below.refl _ _))
      simp only [e7_]; go_simp <;> first | rfl | (simp only [IntWalk.i64_left]; rfl) | (simp only [IntWalk.i64_left, *]; done) | (simp only [IntWalk.i64_left, *]; rfl)
    · have e2_ : X 2 = _ := hD 2 (by decide) rfl
      have e5_ : X 5 = _ := hD 5 (by decide) rfl
      have e8_ : X 8 = _ := hD 8 (by decide) rfl
      refine tv rfl (by simp only [e2_, e5_, e8_]; rfl) ?_ (by exact h _ w7 rfl (Below.refl _ _))
      simp only [e2_, e5_, e8_]; go_simp <;> first | rfl | (simp only [IntWalk.i64_left]; rfl) | (simp only [IntWalk.i64_left, *]; done) | (simp only [IntWalk.i64_left, *]; rfl)
    · have hv := v0.below (show Keep [] _ _ from hb).nil
      have c0_ := hv.at 0 rfl
      have c1_ := hv.at 1 rfl
      have c2_ := hv.at 2 rfl
      have c3_ := hv.at 3 rfl
      have c4_ := hv.at 4 rfl
      have c5_ := hv.at 5 rfl
      have c6_ := hv.at 6 rfl
      have c7_ := hv.at 7 rfl
      have c8_ := hv.at 8 rfl
      refine tv rfl (by rfl) ?_ (by exact h _ w7 rfl (Below.refl _ _))
      go_simp <;> first | rfl | (simp only [IntWalk.i64_left]; rfl) | (simp only [IntWalk.i64_left, *]; done) | (simp only [IntWalk.i64_left, *]; rfl)
    · refine tv rfl (by rfl) ?_ (by exact h _ w7 rfl (Below.refl _ _))
      go_simp <;> first | rfl | (simp only [IntWalk.i64_left]; rfl) | (simp only [IntWalk.i64_left, *]; done) | (simp only [IntWalk.i64_left, *]; rfl)
    · have e11_ : X 11 = _ := hD 11 (by decide) rfl
      refine tv rfl (by simp only [e11_]; rfl) ?_ (by exact h _ w7 rfl (Below.refl _ _))
      simp only [e11_]; go_simp <;> first | rfl | (simp only [IntWalk.i64_left]; rfl) | (simp only [IntWalk.i64_left, *]; done) | (simp only [IntWalk.i64_left, *]; rfl)
    · have e12_ : X 12 = _ := hD 12 (by decide) rfl
      have hv := hv.below (show Keep [] _ _ from hb).nil
      have c0_ := hv.at 0 rfl
      have c1_ := hv.at 1 rfl
      have c2_ := hv.at 2 rfl
      refine tv rfl (by simp only [e12_]; rfl) ?_ (by exact h _ w7 rfl (Below.refl _ _))
      simp only [e12_]; go_simp <;> first | rfl | (simp only [IntWalk.i64_left]; rfl) | (simp only [IntWalk.i64_left, *]; done) | (simp only [IntWalk.i64_left, *]; rfl)
    · refine tv rfl (by rfl) ?_ (by exact h _ w7 rfl (Below.refl _ _))
      go_simp <;> first | rfl | (simp only [IntWalk.i64_left]; rfl) | (simp only [IntWalk.i64_left, *]; done) | (simp only [IntWalk.i64_left, *]; rfl)
    · have e14_ : X 14 = _ := hD 14 (by decide) rfl
      have hv := v0.below (show Keep [] _ _ from hb).nil
      have c0_ := hv.at 3 rfl
      have c1_ := hv.at 4 rfl
      have c2_ := hv.at 5 rfl
      refine tv rfl (by simp only [e14_]; rfl) ?_ (by exact h _ w7 rfl (Below.refl _ _))
      simp only [e14_]; go_simp <;> first | rfl | (simp only [IntWalk.i64_left]; rfl) | (simp only [IntWalk.i64_left, *]; done) | (simp only [IntWalk.i64_left, *]; rfl)
    · refine tv rfl (by rfl) ?_ (by exact h _ w7 rfl (Below.refl _ _))
      go_simp <;> first | rfl | (simp only [IntWalk.i64_left]; rfl) | (simp only [IntWalk.i64_left, *]; done) | (simp only [IntWalk.i64_left, *]; rfl)
    · have e16_ : X 16 = _ := hD 16 (by decide) rfl
      refine tv rfl (by simp only [e16_]; rfl) ?_ (by exact h _ w7 rfl (Below.refl _ _))
      simp only [e16_]; go_simp <;> first | rfl | (simp only [IntWalk.i64_left]; rfl) | (simp only [IntWalk.i64_left, *]; done) | (simp only [IntWalk.i64_left, *]; rfl)
    · have e17_ : X 17 = _ := hD 17 (by decide) rfl
      have hv := hv.below (show Keep [] _ _ from hb).nil
      have c0_ := hv.at 6 rfl
      have c1_ := hv.at 7 rfl
      have c2_ := hv.at 8 rfl
      refine tv rfl (by simp only [e17_]; rfl) ?_ (by exact h _ w7 rfl (Below.refl _ _))
      simp only [e17_]; go_simp <;> first | rfl | (simp only [IntWalk.i64_left]; rfl) | (simp only [IntWalk.i64_left, *]; done) | (simp only [IntWalk.i64_left, *]; rfl)
    · have e13_ : X 13 = _ := hD 13 (by decide) rfl
      have e15_ : X 15 = _ := hD 15 (by decide) rfl
      have e18_ : X 18 = _ := hD 18 (by decide) rfl
      refine tv rfl (by simp only [e13_, e15_, e18_]; rfl) ?_ (by exact h _ w7 rfl (Below.refl _ _))
      simp only [e13_, e15_, e18_]; go_simp <;> first | rfl | (simp only [IntWalk.i64_left]; rfl) | (simp only [IntWalk.i64_left, *]; done) | (simp only [IntWalk.i64_left, *]; rfl)
    · refine tv rfl (by rfl) ?_ (by exact h _ w7 rfl (Below.refl _ _))
      go_simp <;> first | rfl | (simp only [IntWalk.i64_left]; rfl) | (simp only [IntWalk.i64_left, *]; done) | (simp only [IntWalk.i64_left, *]; rfl)
    · have e20_ : X 20 = _ := hD 20 (by decide) rfl
      refine tv rfl (by simp only [e20_]; rfl) ?_ (by exact h _ w7 rfl (Below.refl _ _))
      simp only [e20_]; go_simp <;> first | rfl | (simp only [IntWalk.i64_left]; rfl) | (simp only [IntWalk.i64_left, *]; done) | (simp only [IntWalk.i64_left, *]; rfl)
    · have e21_ : X 21 = _ := hD 21 (by decide) rfl
      have hv := hv.below (show Keep [] _ _ from hb).nil
      have c0_ := hv.at 0 rfl
      have c1_ := hv.at 1 rfl
      have c2_ := hv.at 2 rfl
      refine tv rfl (by simp only [e21_]; rfl) ?_ (by exact h _ w7 rfl (Below.refl _ _))
      simp only [e21_]; go_simp <;> first | rfl | (simp only [IntWalk.i64_left]; rfl) | (simp only [IntWalk.i64_left, *]; done) | (simp only [IntWalk.i64_left, *]; rfl)
    · refine tv rfl (by rfl) ?_ (by exact h _ w7 rfl (Below.refl _ _))
      go_simp <;> first | rfl | (simp only [IntWalk.i64_left]; rfl) | (simp only [IntWalk.i64_left, *]; done) | (simp only [IntWalk.i64_left, *]; rfl)
    · have e23_ : X 23 = _ := hD 23 (by decide) rfl
      refine tv rfl (by simp only [e23_]; rfl) ?_ (by exact h _ w7 rfl (Below.refl _ _))
      simp only [e23_]; go_simp <;> first | rfl | (simp only [IntWalk.i64_left]; rfl) | (simp only [IntWalk.i64_left, *]; done) | (simp only [IntWalk.i64_left, *]; rfl)
    · have e24_ : X 24 = _ := hD 24 (by decide) rfl
      have hv := hv.below (show Keep [] _ _ from hb).nil
      have c0_ := hv.at 3 rfl
      have c1_ := hv.at 4 rfl
      have c2_ := hv.at 5 rfl
      refine tv rfl (by simp only [e24_]; rfl) ?_ (by exact h _ w7 rfl (Below.refl _ _))
      simp only [e24_]; go_simp <;> first | rfl | (simp only [IntWalk.i64_left]; rfl) | (simp only [IntWalk.i64_left, *]; done) | (simp only [IntWalk.i64_left, *]; rfl)
    · refine tv rfl (by rfl) ?_ (by exact h _ w7 rfl (Below.refl _ _))
      go_simp <;> first | rfl | (simp only [IntWalk.i64_left]; rfl) | (simp only [IntWalk.i64_left, *]; done) | (simp only [IntWalk.i64_left, *]; rfl)
    · have e26_ : X 26 = _ := hD 26 (by decide) rfl
      refine tv rfl (by simp only [e26_]; rfl) ?_ (by exact h _ w7 rfl (Below.refl _ _))
      simp only [e26_]; go_simp <;> first | rfl | (simp only [IntWalk.i64_left]; rfl) | (simp only [IntWalk.i64_left, *]; done) | (simp only [IntWalk.i64_left, *]; rfl)
    · have e27_ : X 27 = _ := hD 27 (by decide) rfl
      have hv := hv.below (show Keep [] _ _ from hb).nil
      have c0_ := hv.at 0 rfl
      have c1_ := hv.at 1 rfl
      have c2_ := hv.at 2 rfl
      refine tv rfl (by simp only [e27_]; rfl) ?_ (by exact h _ w7 rfl (Below.refl _ _))
      simp only [e27_]; go_simp <;> first | rfl | (simp only [IntWalk.i64_left]; rfl) | (simp only [IntWalk.i64_left, *]; done) | (simp only [IntWalk.i64_left, *]; rfl)
    · have e22_ : X 22 = _ := hD 22 (by decide) rfl
      have e25_ : X 25 = _ := hD 25 (by decide) rfl
      have e28_ : X 28 = _ := hD 28 (by decide) rfl
      refine tv rfl (by simp only [e22_, e25_, e28_]; rfl) ?_ (by exact h _ w7 rfl (Below.refl _ _))
      simp only [e22_, e25_, e28_]; go_simp <;> first | rfl | (simp only [IntWalk.i64_left]; rfl) | (simp only [IntWalk.i64_left, *]; done) | (simp only [IntWalk.i64_left, *]; rfl)
    · refine tv rfl (by rfl) ?_ (by exact h _ w7 rfl (Below.refl _ _))
      go_simp <;> first | rfl | (simp only [IntWalk.i64_left]; rfl) | (simp only [IntWalk.i64_left, *]; done) | (simp only [IntWalk.i64_left, *]; rfl)
    · have e30_ : X 30 = _ := hD 30 (by decide) rfl
      refine tv rfl (by simp only [e30_]; rfl) ?_ (by exact h _ w7 rfl (Below.refl _ _))
      simp only [e30_]; go_simp <;> first | rfl | (simp only [IntWalk.i64_left]; rfl) | (simp only [IntWalk.i64_left, *]; done) | (simp only [IntWalk.i64_left, *]; rfl)
    · have e31_ : X 31 = _ := hD 31 (by decide) rfl
      have hv := hv.below (show Keep [] _ _ from hb).nil
      have c0_ := hv.at 0 rfl
      have c1_ := hv.at 1 rfl
      have c2_ := hv.at 2 rfl
      refine tv rfl (by simp only [e31_]; rfl) ?_ (by exact h _ w7 rfl (Below.refl _ _))
      simp only [e31_]; go_simp <;> first | rfl | (simp only [IntWalk.i64_left]; rfl) | (simp only [IntWalk.i64_left, *]; done) | (simp only [IntWalk.i64_left, *]; rfl)
    · refine tv rfl (by rfl) ?_ (by exact h _ w7 rfl (Below.refl _ _))
      go_simp <;> first | rfl | (simp only [IntWalk.i64_left]; rfl) | (simp only [IntWalk.i64_left, *]; done) | (simp only [IntWalk.i64_left, *]; rfl)
    · have e33_ : X 33 = _ := hD 33 (by decide) rfl
      refine tv rfl (by simp only [e33_]; rfl) ?_ (by exact h _ w7 rfl (Below.refl _ _))
      simp only [e33_]; go_simp <;> first | rfl | (simp only [IntWalk.i64_left]; rfl) | (simp only [IntWalk.i64_left, *]; done) | (simp only [IntWalk.i64_left, *]; rfl)
    · have e34_ : X 34 = _ := hD 34 (by decide) rfl
      have hv := hv.below (show Keep [] _ _ from hb).nil
      have c0_ := hv.at 3 rfl
      have c1_ := hv.at 4 rfl
      have c2_ := hv.at 5 rfl
      refine tv rfl (by simp only [e34_]; rfl) ?_ (by exact h _ w7 rfl (Below.refl _ _))
      simp only [e34_]; go_simp <;> first | rfl | (simp only [IntWalk.i64_left]; rfl) | (simp only [IntWalk.i64_left, *]; done) | (simp only [IntWalk.i64_left, *]; rfl)
    · refine tv rfl (by rfl) ?_ (by exact h _ w7 rfl (Below.refl _ _))
      go_simp <;> first | rfl | (simp only [IntWalk.i64_left]; rfl) | (simp only [IntWalk.i64_left, *]; done) | (simp only [IntWalk.i64_left, *]; rfl)
    · have e36_ : X 36 = _ := hD 36 (by decide) rfl
      refine tv rfl (by simp only [e36_]; rfl) ?_ (by exact h _ w7 rfl (Below.refl _ _))
      simp only [e36_]; go_simp <;> first | rfl | (simp only [IntWalk.i64_left]; rfl) | (simp only [IntWalk.i64_left, *]; done) | (simp only [IntWalk.i64_left, *]; rfl)
    · have e37_ : X 37 = _ := hD 37 (by decide) rfl
      have hv := hv.below (show Keep [] _ _ from hb).nil
      have c0_ := hv.at 3 rfl
      have c1_ := hv.at 4 rfl
      have c2_ := hv.at 5 rfl
      refine tv rfl (by simp only [e37_]; rfl) ?_ (by exact h _ w7 rfl (Below.refl _ _))
      simp only [e37_]; go_simp <;> first | rfl | (simp only [IntWalk.i64_left]; rfl) | (simp only [IntWalk.i64_left, *]; done) | (simp only [IntWalk.i64_left, *]; rfl)
    · refine tv rfl (by rfl) ?_ (by exact h _ w7 rfl (Below.refl _ _))
      go_simp <;> first | rfl | (simp only [IntWalk.i64_left]; rfl) | (simp only [IntWalk.i64_left, *]; done) | (simp only [IntWalk.i64_left, *]; rfl)
    · have e39_ : X 39 = _ := hD 39 (by decide) rfl
      refine tv rfl (by simp only [e39_]; rfl) ?_ (by exact h _ w7 rfl (Below.refl _ _))
      simp only [e39_]; go_simp <;> first | rfl | (simp only [IntWalk.i64_left]; rfl) | (simp only [IntWalk.i64_left, *]; done) | (simp only [IntWalk.i64_left, *]; rfl)
    · have e40_ : X 40 = _ := hD 40 (by decide) rfl
      have hv := hv.below (show Keep [] _ _ from hb).nil
      have c0_ := hv.at 3 rfl
      have c1_ := hv.at 4 rfl
      have c2_ := hv.at 5 rfl
      refine tv rfl (by simp only [e40_]; rfl) ?_ (by exact h _ w7 rfl (Below.refl _ _))
      simp only [e40_]; go_simp <;> first | rfl | (simp only [IntWalk.i64_left]; rfl) | (simp only [IntWalk.i64_left, *]; done) | (simp only [IntWalk.i64_left, *]; rfl)
    · have e38_ : X 38 = _ := hD 38 (by decide) rfl
      have e41_ : X 41 = _ := hD 41 (by decide) rfl
      refine wpOp_call (i := 42) (f := 16) (args := #[.agg #[.int .i64 x3, .int .i64 x4, .int .i64 x5], .agg #[.int .i64 x3, .int .i64 x4, .int .i64 x5]]) 62 rfl rfl (by simp only [e38_, e41_]; rfl) (by simp only [e38_, e41_]; go_simp) ?_
      refine (add_r x3 x4 x5 x3 x4 x5 _).mono ?_
      rintro e w8 ⟨rfl, hk⟩
      exact ⟨_, rfl, h _ w8 rfl hk⟩
    · refine tv rfl (by rfl) ?_ (by exact h _ w7 rfl (Below.refl _ _))
      go_simp <;> first | rfl | (simp only [IntWalk.i64_left]; rfl) | (simp only [IntWalk.i64_left, *]; done) | (simp only [IntWalk.i64_left, *]; rfl)
    · have e43_ : X 43 = _ := hD 43 (by decide) rfl
      refine tv rfl (by simp only [e43_]; rfl) ?_ (by exact h _ w7 rfl (Below.refl _ _))
      simp only [e43_]; go_simp <;> first | rfl | (simp only [IntWalk.i64_left]; rfl) | (simp only [IntWalk.i64_left, *]; done) | (simp only [IntWalk.i64_left, *]; rfl)
    · have e44_ : X 44 = _ := hD 44 (by decide) rfl
      have hv := hv.below (show Keep [] _ _ from hb).nil
      have c0_ := hv.at 0 rfl
      have c1_ := hv.at 1 rfl
      have c2_ := hv.at 2 rfl
      refine tv rfl (by simp only [e44_]; rfl) ?_ (by exact h _ w7 rfl (Below.refl _ _))
      simp only [e44_]; go_simp <;> first | rfl | (simp only [IntWalk.i64_left]; rfl) | (simp only [IntWalk.i64_left, *]; done) | (simp only [IntWalk.i64_left, *]; rfl)
    · have e42_ : X 42 = _ := hD 42 (by decide) rfl
      have e45_ : X 45 = _ := hD 45 (by decide) rfl
      refine wpOp_call (i := 46) (f := 18) (args := #[.agg #[.int .i64 (wrap64 (x3 + x3)), .int .i64 (wrap64 (x4 + x4)), .int .i64 (wrap64 (x5 + x5))], .agg #[.int .i64 x0, .int .i64 x1, .int .i64 x2]]) 66 rfl rfl (by simp only [e42_, e45_]; rfl) (by simp only [e42_, e45_]; go_simp) ?_
      refine (sub_r (wrap64 (x3 + x3)) (wrap64 (x4 + x4)) (wrap64 (x5 + x5)) x0 x1 x2 _).mono ?_
      rintro e w8 ⟨rfl, hk⟩
      exact ⟨_, rfl, h _ w8 rfl hk⟩
    · have e32_ : X 32 = _ := hD 32 (by decide) rfl
      have e35_ : X 35 = _ := hD 35 (by decide) rfl
      have e46_ : X 46 = _ := hD 46 (by decide) rfl
      refine tv rfl (by simp only [e32_, e35_, e46_]; rfl) ?_ (by exact h _ w7 rfl (Below.refl _ _))
      simp only [e32_, e35_, e46_]; go_simp <;> first | rfl | (simp only [IntWalk.i64_left]; rfl) | (simp only [IntWalk.i64_left, *]; done) | (simp only [IntWalk.i64_left, *]; rfl)
    · have e9_ : X 9 = _ := hD 9 (by decide) rfl
      have e10_ : X 10 = _ := hD 10 (by decide) rfl
      have e19_ : X 19 = _ := hD 19 (by decide) rfl
      have e29_ : X 29 = _ := hD 29 (by decide) rfl
      have e47_ : X 47 = _ := hD 47 (by decide) rfl
      refine wpOp_run rfl ?_
      simp only [e9_, e10_, e19_, e29_, e47_]; go_simp
      have h := h _ _ ⟨_, rfl, Var.new w7 [.int .i64 x0, .int .i64 x1, .int .i64 x2, .int .i64 x3, .int .i64 x4, .int .i64 x5, .int .i64 x6, .int .i64 x7, .int .i64 x8, .int .i64 r0, .int .i64 r1, .int .i64 r2, .int .i64 r3, .int .i64 r4, .int .i64 r5, .int .i64 r6, .int .i64 r7, .int .i64 r8, .int .i64 x0, .int .i64 x1, .int .i64 x2, .int .i64 r3, .int .i64 r4, .int .i64 r5, .int .i64 x6, .int .i64 x7, .int .i64 x8, .int .i64 x0, .int .i64 x1, .int .i64 x2, .int .i64 x3, .int .i64 x4, .int .i64 x5, .int .i64 x0, .int .i64 x1, .int .i64 x2, .int .i64 x0, .int .i64 x1, .int .i64 x2, .int .i64 x3, .int .i64 x4, .int .i64 x5, .int .i64 (wrap64 ((wrap64 (x3 + x3)) - x0)), .int .i64 (wrap64 ((wrap64 (x4 + x4)) - x1)), .int .i64 (wrap64 ((wrap64 (x5 + x5)) - x2))] 51⟩ (belowA _ _)
      have u9_ : ∀ v, upd X 48 v 9 = X 9 := fun _ => rfl
      have u10_ : ∀ v, upd X 48 v 10 = X 10 := fun _ => rfl
      have u19_ : ∀ v, upd X 48 v 19 = X 19 := fun _ => rfl
      have u29_ : ∀ v, upd X 48 v 29 = X 29 := fun _ => rfl
      have u47_ : ∀ v, upd X 48 v 47 = X 47 := fun _ => rfl
      simp only [u9_, u10_, u19_, u29_, u47_, e9_, e10_, e19_, e29_, e47_] at h
      exact h
    · obtain ⟨b48_, e48_, Q48_⟩ := hD 48 (by decide) rfl
      refine tv rfl (by simp only [e48_]; rfl) ?_ (by exact h _ w7 rfl (Below.refl _ _))
      simp only [e48_]; go_simp <;> first | rfl | (simp only [IntWalk.i64_left]; rfl) | (simp only [IntWalk.i64_left, *]; done) | (simp only [IntWalk.i64_left, *]; rfl)
    · refine tv rfl (by rfl) ?_ (by exact h _ w7 rfl (Below.refl _ _))
      go_simp <;> first | rfl | (simp only [IntWalk.i64_left]; rfl) | (simp only [IntWalk.i64_left, *]; done) | (simp only [IntWalk.i64_left, *]; rfl)
  case al => exact Each.nil
  case st => exact Each.nil
  case into => exact Each.nil
  case fin =>
    intro X3_ W4 hI
    have hE : Keep [] W3 W4 := hI.keep
    obtain ⟨b1, e48_, v1⟩ := hI.fact 48 (by decide) rfl rfl
    have e49_ : X3_ 49 = _ := hI.fact 49 (by decide) rfl rfl
    have e50_ : X3_ 50 = _ := hI.fact 50 (by decide) rfl rfl
    have v0 := v0.below hE.nil
    have hv := hv.below hE.nil
    have hB := hB.trans (hE.nil.mono hB.size)
    simp only [e48_, e49_, e50_]
    clear e48_ e49_ e50_ hI hE
    clear v0
    clear hv
    go_wp2_with fail
    go_loopw [70] (fun i wr => ∃ k : Nat, k ≤ 5 ∧ i = .int .i64 (k : Int) ∧ Below w.heap.size w wr ∧ Var wr b1 [.int .i64 x0, .int .i64 x1, .int .i64 x2, .int .i64 x3, .int .i64 x4, .int .i64 x5, .int .i64 x6, .int .i64 x7, .int .i64 x8, .int .i64 r0, .int .i64 r1, .int .i64 r2, .int .i64 r3, .int .i64 r4, .int .i64 r5, .int .i64 r6, .int .i64 r7, .int .i64 r8, .int .i64 x0, .int .i64 x1, .int .i64 x2, .int .i64 r3, .int .i64 r4, .int .i64 r5, .int .i64 x6, .int .i64 x7, .int .i64 x8, .int .i64 x0, .int .i64 x1, .int .i64 x2, .int .i64 x3, .int .i64 x4, .int .i64 x5, .int .i64 x0, .int .i64 x1, .int .i64 x2, .int .i64 x0, .int .i64 x1, .int .i64 x2, .int .i64 x3, .int .i64 x4, .int .i64 x5, .int .i64 (wrap64 ((wrap64 (x3 + x3)) - x0)), .int .i64 (wrap64 ((wrap64 (x4 + x4)) - x1)), .int .i64 (wrap64 ((wrap64 (x5 + x5)) - x2))]) (fun i _ => 5 - (intOf i).toNat)
    case atStart => exact ⟨0, by omega, rfl, hB, v1⟩
    case round =>
      clear hB v1
      obtain ⟨k, hk, rfl, hB, v1⟩ := hrel
      by_cases hlt : k < 5
      · have hk5 : (k : Int) < 5 := by omega
        obtain ⟨e1, e2, e3, f1, f2, f3, i1, i2, i3, q0, q1, q2, q3, q4, q5, q6, q7, q8⟩ : ∃ e1 e2 e3 f1 f2 f3 i1 i2 i3 : Int, ([.int .i64 x0, .int .i64 x1, .int .i64 x2, .int .i64 x3, .int .i64 x4, .int .i64 x5, .int .i64 x6, .int .i64 x7, .int .i64 x8, .int .i64 r0, .int .i64 r1, .int .i64 r2, .int .i64 r3, .int .i64 r4, .int .i64 r5, .int .i64 r6, .int .i64 r7, .int .i64 r8, .int .i64 x0, .int .i64 x1, .int .i64 x2, .int .i64 r3, .int .i64 r4, .int .i64 r5, .int .i64 x6, .int .i64 x7, .int .i64 x8, .int .i64 x0, .int .i64 x1, .int .i64 x2, .int .i64 x3, .int .i64 x4, .int .i64 x5, .int .i64 x0, .int .i64 x1, .int .i64 x2, .int .i64 x0, .int .i64 x1, .int .i64 x2, .int .i64 x3, .int .i64 x4, .int .i64 x5, .int .i64 (wrap64 ((wrap64 (x3 + x3)) - x0)), .int .i64 (wrap64 ((wrap64 (x4 + x4)) - x1)), .int .i64 (wrap64 ((wrap64 (x5 + x5)) - x2))] : List Value)[k * 9]? = some (.int .i64 e1) ∧ ([.int .i64 x0, .int .i64 x1, .int .i64 x2, .int .i64 x3, .int .i64 x4, .int .i64 x5, .int .i64 x6, .int .i64 x7, .int .i64 x8, .int .i64 r0, .int .i64 r1, .int .i64 r2, .int .i64 r3, .int .i64 r4, .int .i64 r5, .int .i64 r6, .int .i64 r7, .int .i64 r8, .int .i64 x0, .int .i64 x1, .int .i64 x2, .int .i64 r3, .int .i64 r4, .int .i64 r5, .int .i64 x6, .int .i64 x7, .int .i64 x8, .int .i64 x0, .int .i64 x1, .int .i64 x2, .int .i64 x3, .int .i64 x4, .int .i64 x5, .int .i64 x0, .int .i64 x1, .int .i64 x2, .int .i64 x0, .int .i64 x1, .int .i64 x2, .int .i64 x3, .int .i64 x4, .int .i64 x5, .int .i64 (wrap64 ((wrap64 (x3 + x3)) - x0)), .int .i64 (wrap64 ((wrap64 (x4 + x4)) - x1)), .int .i64 (wrap64 ((wrap64 (x5 + x5)) - x2))] : List Value)[k * 9 + 1]? = some (.int .i64 e2) ∧ ([.int .i64 x0, .int .i64 x1, .int .i64 x2, .int .i64 x3, .int .i64 x4, .int .i64 x5, .int .i64 x6, .int .i64 x7, .int .i64 x8, .int .i64 r0, .int .i64 r1, .int .i64 r2, .int .i64 r3, .int .i64 r4, .int .i64 r5, .int .i64 r6, .int .i64 r7, .int .i64 r8, .int .i64 x0, .int .i64 x1, .int .i64 x2, .int .i64 r3, .int .i64 r4, .int .i64 r5, .int .i64 x6, .int .i64 x7, .int .i64 x8, .int .i64 x0, .int .i64 x1, .int .i64 x2, .int .i64 x3, .int .i64 x4, .int .i64 x5, .int .i64 x0, .int .i64 x1, .int .i64 x2, .int .i64 x0, .int .i64 x1, .int .i64 x2, .int .i64 x3, .int .i64 x4, .int .i64 x5, .int .i64 (wrap64 ((wrap64 (x3 + x3)) - x0)), .int .i64 (wrap64 ((wrap64 (x4 + x4)) - x1)), .int .i64 (wrap64 ((wrap64 (x5 + x5)) - x2))] : List Value)[k * 9 + 2]? = some (.int .i64 e3) ∧ ([.int .i64 x0, .int .i64 x1, .int .i64 x2, .int .i64 x3, .int .i64 x4, .int .i64 x5, .int .i64 x6, .int .i64 x7, .int .i64 x8, .int .i64 r0, .int .i64 r1, .int .i64 r2, .int .i64 r3, .int .i64 r4, .int .i64 r5, .int .i64 r6, .int .i64 r7, .int .i64 r8, .int .i64 x0, .int .i64 x1, .int .i64 x2, .int .i64 r3, .int .i64 r4, .int .i64 r5, .int .i64 x6, .int .i64 x7, .int .i64 x8, .int .i64 x0, .int .i64 x1, .int .i64 x2, .int .i64 x3, .int .i64 x4, .int .i64 x5, .int .i64 x0, .int .i64 x1, .int .i64 x2, .int .i64 x0, .int .i64 x1, .int .i64 x2, .int .i64 x3, .int .i64 x4, .int .i64 x5, .int .i64 (wrap64 ((wrap64 (x3 + x3)) - x0)), .int .i64 (wrap64 ((wrap64 (x4 + x4)) - x1)), .int .i64 (wrap64 ((wrap64 (x5 + x5)) - x2))] : List Value)[k * 9 + 3]? = some (.int .i64 f1) ∧ ([.int .i64 x0, .int .i64 x1, .int .i64 x2, .int .i64 x3, .int .i64 x4, .int .i64 x5, .int .i64 x6, .int .i64 x7, .int .i64 x8, .int .i64 r0, .int .i64 r1, .int .i64 r2, .int .i64 r3, .int .i64 r4, .int .i64 r5, .int .i64 r6, .int .i64 r7, .int .i64 r8, .int .i64 x0, .int .i64 x1, .int .i64 x2, .int .i64 r3, .int .i64 r4, .int .i64 r5, .int .i64 x6, .int .i64 x7, .int .i64 x8, .int .i64 x0, .int .i64 x1, .int .i64 x2, .int .i64 x3, .int .i64 x4, .int .i64 x5, .int .i64 x0, .int .i64 x1, .int .i64 x2, .int .i64 x0, .int .i64 x1, .int .i64 x2, .int .i64 x3, .int .i64 x4, .int .i64 x5, .int .i64 (wrap64 ((wrap64 (x3 + x3)) - x0)), .int .i64 (wrap64 ((wrap64 (x4 + x4)) - x1)), .int .i64 (wrap64 ((wrap64 (x5 + x5)) - x2))] : List Value)[k * 9 + 4]? = some (.int .i64 f2) ∧ ([.int .i64 x0, .int .i64 x1, .int .i64 x2, .int .i64 x3, .int .i64 x4, .int .i64 x5, .int .i64 x6, .int .i64 x7, .int .i64 x8, .int .i64 r0, .int .i64 r1, .int .i64 r2, .int .i64 r3, .int .i64 r4, .int .i64 r5, .int .i64 r6, .int .i64 r7, .int .i64 r8, .int .i64 x0, .int .i64 x1, .int .i64 x2, .int .i64 r3, .int .i64 r4, .int .i64 r5, .int .i64 x6, .int .i64 x7, .int .i64 x8, .int .i64 x0, .int .i64 x1, .int .i64 x2, .int .i64 x3, .int .i64 x4, .int .i64 x5, .int .i64 x0, .int .i64 x1, .int .i64 x2, .int .i64 x0, .int .i64 x1, .int .i64 x2, .int .i64 x3, .int .i64 x4, .int .i64 x5, .int .i64 (wrap64 ((wrap64 (x3 + x3)) - x0)), .int .i64 (wrap64 ((wrap64 (x4 + x4)) - x1)), .int .i64 (wrap64 ((wrap64 (x5 + x5)) - x2))] : List Value)[k * 9 + 5]? = some (.int .i64 f3) ∧ ([.int .i64 x0, .int .i64 x1, .int .i64 x2, .int .i64 x3, .int .i64 x4, .int .i64 x5, .int .i64 x6, .int .i64 x7, .int .i64 x8, .int .i64 r0, .int .i64 r1, .int .i64 r2, .int .i64 r3, .int .i64 r4, .int .i64 r5, .int .i64 r6, .int .i64 r7, .int .i64 r8, .int .i64 x0, .int .i64 x1, .int .i64 x2, .int .i64 r3, .int .i64 r4, .int .i64 r5, .int .i64 x6, .int .i64 x7, .int .i64 x8, .int .i64 x0, .int .i64 x1, .int .i64 x2, .int .i64 x3, .int .i64 x4, .int .i64 x5, .int .i64 x0, .int .i64 x1, .int .i64 x2, .int .i64 x0, .int .i64 x1, .int .i64 x2, .int .i64 x3, .int .i64 x4, .int .i64 x5, .int .i64 (wrap64 ((wrap64 (x3 + x3)) - x0)), .int .i64 (wrap64 ((wrap64 (x4 + x4)) - x1)), .int .i64 (wrap64 ((wrap64 (x5 + x5)) - x2))] : List Value)[k * 9 + 6]? = some (.int .i64 i1) ∧ ([.int .i64 x0, .int .i64 x1, .int .i64 x2, .int .i64 x3, .int .i64 x4, .int .i64 x5, .int .i64 x6, .int .i64 x7, .int .i64 x8, .int .i64 r0, .int .i64 r1, .int .i64 r2, .int .i64 r3, .int .i64 r4, .int .i64 r5, .int .i64 r6, .int .i64 r7, .int .i64 r8, .int .i64 x0, .int .i64 x1, .int .i64 x2, .int .i64 r3, .int .i64 r4, .int .i64 r5, .int .i64 x6, .int .i64 x7, .int .i64 x8, .int .i64 x0, .int .i64 x1, .int .i64 x2, .int .i64 x3, .int .i64 x4, .int .i64 x5, .int .i64 x0, .int .i64 x1, .int .i64 x2, .int .i64 x0, .int .i64 x1, .int .i64 x2, .int .i64 x3, .int .i64 x4, .int .i64 x5, .int .i64 (wrap64 ((wrap64 (x3 + x3)) - x0)), .int .i64 (wrap64 ((wrap64 (x4 + x4)) - x1)), .int .i64 (wrap64 ((wrap64 (x5 + x5)) - x2))] : List Value)[k * 9 + 7]? = some (.int .i64 i2) ∧ ([.int .i64 x0, .int .i64 x1, .int .i64 x2, .int .i64 x3, .int .i64 x4, .int .i64 x5, .int .i64 x6, .int .i64 x7, .int .i64 x8, .int .i64 r0, .int .i64 r1, .int .i64 r2, .int .i64 r3, .int .i64 r4, .int .i64 r5, .int .i64 r6, .int .i64 r7, .int .i64 r8, .int .i64 x0, .int .i64 x1, .int .i64 x2, .int .i64 r3, .int .i64 r4, .int .i64 r5, .int .i64 x6, .int .i64 x7, .int .i64 x8, .int .i64 x0, .int .i64 x1, .int .i64 x2, .int .i64 x3, .int .i64 x4, .int .i64 x5, .int .i64 x0, .int .i64 x1, .int .i64 x2, .int .i64 x0, .int .i64 x1, .int .i64 x2, .int .i64 x3, .int .i64 x4, .int .i64 x5, .int .i64 (wrap64 ((wrap64 (x3 + x3)) - x0)), .int .i64 (wrap64 ((wrap64 (x4 + x4)) - x1)), .int .i64 (wrap64 ((wrap64 (x5 + x5)) - x2))] : List Value)[k * 9 + 8]? = some (.int .i64 i3) := by
          match k, hlt with
          | 0, _ | 1, _ | 2, _ | 3, _ | 4, _ => exact ⟨_, _, _, _, _, _, _, _, _, rfl, rfl, rfl, rfl, rfl, rfl, rfl, rfl, rfl⟩
        have d0 := v1.at (k * 9) q0
        have d1 := v1.at (k * 9 + 1) q1
        have d2 := v1.at (k * 9 + 2) q2
        have d3 := v1.at (k * 9 + 3) q3
        have d4 := v1.at (k * 9 + 4) q4
        have d5 := v1.at (k * 9 + 5) q5
        have d6 := v1.at (k * 9 + 6) q6
        have d7 := v1.at (k * 9 + 7) q7
        have d8 := v1.at (k * 9 + 8) q8
        clear q0 q1 q2 q3 q4 q5 q6 q7 q8
        go_wp2_with fail
        refine (through_p e1 e2 e3 f1 f2 f3 i1 i2 i3 _).mono ?_
        rintro e W5 ⟨rfl, hk⟩
        try simp only [Pl]
        have hs : Below wr.heap.size wr W5 := Below.trans (by repeat (first | exact Below.refl _ _ | refine Below.alloc ?_ (by first | omega | (simp; try omega)) _ | refine Below.setCell ?_ (by first | omega | (simp; try omega)) _)) (hk.mono (by first | omega | (simp; try omega)))
        have v1 := v1.below hs
        have v2 : Var W5 (wr.heap.size) [.int .i64 e1, .int .i64 e2, .int .i64 e3, .int .i64 f1, .int .i64 f2, .int .i64 f3, .int .i64 i1, .int .i64 i2, .int .i64 i3] := Var.low ⟨by first | omega | (simp; try omega), by simp [Cel, go_sem]⟩ hk (by first | omega | (simp; try omega))
        obtain ⟨b2, hb2⟩ : ∃ b, wr.heap.size = b := ⟨_, rfl⟩
        have lob2 : w.heap.size ≤ b2 := by have := hB.size; omega
        rw [hb2] at v2
        try rw [hb2]
        have hB := hB.trans (hs.mono hB.size)
        clear hb2 hs hk
        clear d0 d1 d2 d3 d4 d5 d6 d7 d8
        have cb2_0 := v2.at 0 rfl
        have ab2_0_1 : ∀ o0, (W5.alloc o0).cell? ⟨b2, 0, none⟩ = some (.int .i64 e1) := fun o0 => (v2.allocs1 o0).at 0 rfl
        have cb2_1 := v2.at 1 rfl
        have ab2_1_1 : ∀ o0, (W5.alloc o0).cell? ⟨b2, 1, none⟩ = some (.int .i64 e2) := fun o0 => (v2.allocs1 o0).at 1 rfl
        have cb2_2 := v2.at 2 rfl
        have ab2_2_1 : ∀ o0, (W5.alloc o0).cell? ⟨b2, 2, none⟩ = some (.int .i64 e3) := fun o0 => (v2.allocs1 o0).at 2 rfl
        have cb2_3 := v2.at 3 rfl
        have ab2_3_1 : ∀ o0, (W5.alloc o0).cell? ⟨b2, 3, none⟩ = some (.int .i64 f1) := fun o0 => (v2.allocs1 o0).at 3 rfl
        have cb2_4 := v2.at 4 rfl
        have ab2_4_1 : ∀ o0, (W5.alloc o0).cell? ⟨b2, 4, none⟩ = some (.int .i64 f2) := fun o0 => (v2.allocs1 o0).at 4 rfl
        have cb2_5 := v2.at 5 rfl
        have ab2_5_1 : ∀ o0, (W5.alloc o0).cell? ⟨b2, 5, none⟩ = some (.int .i64 f3) := fun o0 => (v2.allocs1 o0).at 5 rfl
        have cb2_6 := v2.at 6 rfl
        have ab2_6_1 : ∀ o0, (W5.alloc o0).cell? ⟨b2, 6, none⟩ = some (.int .i64 i1) := fun o0 => (v2.allocs1 o0).at 6 rfl
        have cb2_7 := v2.at 7 rfl
        have ab2_7_1 : ∀ o0, (W5.alloc o0).cell? ⟨b2, 7, none⟩ = some (.int .i64 i2) := fun o0 => (v2.allocs1 o0).at 7 rfl
        have cb2_8 := v2.at 8 rfl
        have ab2_8_1 : ∀ o0, (W5.alloc o0).cell? ⟨b2, 8, none⟩ = some (.int .i64 i3) := fun o0 => (v2.allocs1 o0).at 8 rfl
        go_wp2_with fail
        refine (through_r e1 e2 e3 f1 f2 f3 i1 i2 i3 _).mono ?_
        rintro e W6 ⟨rfl, hk⟩
        try simp only [Pl]
        have hs : Below W5.heap.size W5 W6 := Below.trans (by repeat (first | exact Below.refl _ _ | refine Below.alloc ?_ (by first | omega | (simp; try omega)) _ | refine Below.setCell ?_ (by first | omega | (simp; try omega)) _)) (hk.mono (by first | omega | (simp; try omega)))
        have v1 := v1.below hs
        have v2 := v2.below hs
        have v3 : Var W6 (W5.heap.size) [.int .i64 (thI e1 e2 e3 f1 f2 f3 i1 i2 i3), .int .i64 (thJ e1 e2 e3 f1 f2 f3 i1 i2 i3), .int .i64 (thK e1 e2 e3 f1 f2 f3 i1 i2 i3), .int .i64 (thD e1 e2 e3 f1 f2 f3 i1 i2 i3)] := Var.low ⟨by first | omega | (simp; try omega), by simp [Cel, go_sem]⟩ hk (by first | omega | (simp; try omega))
        obtain ⟨b3, hb3⟩ : ∃ b, W5.heap.size = b := ⟨_, rfl⟩
        have lob3 : w.heap.size ≤ b3 := by have := hB.size; omega
        rw [hb3] at v3
        try rw [hb3]
        have hB := hB.trans (hs.mono hB.size)
        clear cb2_0 cb2_1 cb2_2 cb2_3 cb2_4 cb2_5 cb2_6 cb2_7 cb2_8 hb3 hs hk ab2_0_1 ab2_1_1 ab2_2_1 ab2_3_1 ab2_4_1 ab2_5_1 ab2_6_1 ab2_7_1 ab2_8_1
        have cb3_0 := v3.at 0 rfl
        have ab3_0_1 : ∀ o0, (W6.alloc o0).cell? ⟨b3, 0, none⟩ = some (.int .i64 (thI e1 e2 e3 f1 f2 f3 i1 i2 i3)) := fun o0 => (v3.allocs1 o0).at 0 rfl
        have cb3_1 := v3.at 1 rfl
        have ab3_1_1 : ∀ o0, (W6.alloc o0).cell? ⟨b3, 1, none⟩ = some (.int .i64 (thJ e1 e2 e3 f1 f2 f3 i1 i2 i3)) := fun o0 => (v3.allocs1 o0).at 1 rfl
        have cb3_2 := v3.at 2 rfl
        have ab3_2_1 : ∀ o0, (W6.alloc o0).cell? ⟨b3, 2, none⟩ = some (.int .i64 (thK e1 e2 e3 f1 f2 f3 i1 i2 i3)) := fun o0 => (v3.allocs1 o0).at 2 rfl
        have cb3_3 := v3.at 3 rfl
        have ab3_3_1 : ∀ o0, (W6.alloc o0).cell? ⟨b3, 3, none⟩ = some (.int .i64 (thD e1 e2 e3 f1 f2 f3 i1 i2 i3)) := fun o0 => (v3.allocs1 o0).at 3 rfl
        go_wp2_with fail
        have hBs := hB.size
        go_roundw
        case rel => exact ⟨k + 1, by omega, by simp, by repeat (first | exact hB | refine Below.alloc ?_ (by first | omega | (simp; try omega)) _ | refine Below.setCell ?_ (by first | omega | (simp; try omega)) _), v1.allocs1 _⟩
        case measure => simp [intOf]; omega
      · obtain rfl : k = 5 := by omega
        go_wp2_with fail
        have hBs := hB.size
        go_ret
        exact ⟨rfl, by repeat (first | exact hB | refine Below.alloc ?_ (by first | omega | (simp; try omega)) _ | refine Below.setCell ?_ (by first | omega | (simp; try omega)) _)⟩


theorem through_true (ao : Option Addr) (len cap : Nat) (hlen : len ≤ 9223372036854775807) (hc : len ≤ cap) (hn : ao = none → len = 0 ∧ cap = 0) (r0 r1 r2 r3 r4 r5 r6 r7 r8 : Int) (w : World) (hl : Lst w ao len w.heap.size) :
    Calls Try.prog 5 #[.slice ao len cap, .agg #[.int .i64 r0, .int .i64 r1, .int .i64 r2, .int .i64 r3, .int .i64 r4, .int .i64 r5, .int .i64 r6, .int .i64 r7, .int .i64 r8]] w (Gives w (.bool true)) := by
  cases ao with
  | none =>
    obtain ⟨rfl, rfl⟩ := hn rfl
    exact thr_none r0 r1 r2 r3 r4 r5 r6 r7 r8 w hl
  | some ad =>
    by_cases h : len ≤ 12
    · exact thr_le ad len cap hlen (by omega) (by omega) r0 r1 r2 r3 r4 r5 r6 r7 r8 w hl
    · exact thr_gt ad len cap hlen (by omega) (by omega) r0 r1 r2 r3 r4 r5 r6 r7 r8 w hl
end Go.Proofs.Ytcgdedcgncjplaa
