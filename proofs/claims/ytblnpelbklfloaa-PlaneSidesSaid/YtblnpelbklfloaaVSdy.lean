/- The law PlaneSides, one of three kinds of lists. -/
import Derived.Test.YtblnpelbklfloaaVSfc
namespace Go.Proofs.Ytblnpelbklfloaa
open Go.RowKit

set_option maxRecDepth 100000 in
set_option maxHeartbeats 16000000 in
theorem sds_gt (ad : Addr) (len cap : Nat) (hlen : len ≤ 9223372036854775807) (hl1_ : 16 < (len : Int)) (hl2_ : (16 : Int) ≤ (cap : Int)) (e0 e1 e2 : Nat) (t1 t2 t3 : Int) (ht0_ : Hid ((e0 : Int) % 9 - 4 = t1)) (ht1_ : Hid ((e1 : Int) % 9 - 4 = t2)) (ht2_ : Hid ((e2 : Int) % 9 - 4 = t3)) (he0 : e0 < 256) (he1 : e1 < 256) (he2 : e2 < 256) (ht1 : Hid (-4 ≤ t1 ∧ t1 ≤ 4)) (ht2 : Hid (-4 ≤ t2 ∧ t2 ≤ 4)) (ht3 : Hid (-4 ≤ t3 ∧ t3 ≤ 4)) (w : World) (hl2 : Lst w (some ad) len w.heap.size) :
    Calls Try.prog 8 #[.slice (some ad) len cap, .agg #[.int .u8 (e0 : Int), .int .u8 (e1 : Int), .int .u8 (e2 : Int)]] w (Gives w (.bool true)) := by
  go_enter Try.func8, Try.ntmps8
  have hB := Below.refl w.heap.size w
  go_wp2_with fail
  refine (sanity_true _).mono ?_
  rintro e W1 ⟨rfl, hk⟩
  have hs : Below w.heap.size w W1 := Below.trans (by repeat (first | exact Below.refl _ _ | refine Below.alloc ?_ (by first | omega | (simp; try omega)) _ | refine Below.setCell ?_ (by first | omega | (simp; try omega)) _)) (hk.mono (by first | omega | (simp; try omega)))
  have hl2 := hl2.below hs
  have v0 : Var W1 (w.heap.size) [.int .u8 (e0 : Int), .int .u8 (e1 : Int), .int .u8 (e2 : Int)] := Var.low ⟨by first | omega | (simp; try omega), by simp [Cel, go_sem]⟩ hk (by first | omega | (simp; try omega))
  obtain ⟨b0, hb0⟩ : ∃ b, w.heap.size = b := ⟨_, rfl⟩
  have lob0 : w.heap.size ≤ b0 := by have := hB.size; omega
  rw [hb0] at v0
  try rw [hb0]
  have hB := hB.trans (hs.mono hB.size)
  clear hb0 hs hk
  go_wp2_with fail
  refine (points_rc (some ad) 16 cap 4 (by omega) (by decide) (by decide) _ (hl2.mono hB.size (by omega))).mono ?_
  rintro e W2 ⟨g, c, xs, rfl, hxl, hxb, hv, hg, hgc, hk⟩
  obtain ⟨x0, x1, x2, x3, x4, x5, x6, x7, x8, x9, x10, x11, rfl⟩ := list12 hxl
  replace hv : Var W2 g [.int .i64 x0, .int .i64 x1, .int .i64 x2, .int .i64 x3, .int .i64 x4, .int .i64 x5, .int .i64 x6, .int .i64 x7, .int .i64 x8, .int .i64 x9, .int .i64 x10, .int .i64 x11] := hv
  have hP0 := hideV (show P24 x0 x1 x2 from ⟨hxb _ (by simp), hxb _ (by simp), hxb _ (by simp)⟩)
  have hP1 := hideV (show P24 x3 x4 x5 from ⟨hxb _ (by simp), hxb _ (by simp), hxb _ (by simp)⟩)
  have hP2 := hideV (show P24 x6 x7 x8 from ⟨hxb _ (by simp), hxb _ (by simp), hxb _ (by simp)⟩)
  have hP3 := hideV (show P24 x9 x10 x11 from ⟨hxb _ (by simp), hxb _ (by simp), hxb _ (by simp)⟩)
  have lg := Nat.le_trans hB.size hg
  clear hxl hxb hg
  have hs := hk
  have v0 := v0.below hs
  have hl2 := hl2.below hs
  have hB := hB.trans (hs.mono hB.size)
  clear hs hk
  clear hl2
  by_cases hflat : cgI x0 x1 x2 x3 x4 x5 x6 x7 x8 = 0
  · obtain ⟨cT1, cT2, cT3, cC⟩ := flat_facts hP0 hP1 hP2 hflat
    clear hflat
    go_wp2_with fail
    refine wp_region_dag (by kernel_rfl) ?_
    intro W3 hk
    have hs := hk
    have v0 := v0.below hs
    have hv := hv.below hs
    have hB := hB.trans (hs.mono hB.size)
    clear hs hk
    refine dagV (fun _ => trivial) 16 ?hn (fun X => ⟨#[.slice (some ad) len cap, .agg #[.int .u8 (e0 : Int), .int .u8 (e1 : Int), .int .u8 (e2 : Int)], undef, .pointer (some ⟨b0, 0, none⟩), .bool false, .bool true, .slice (some ⟨g, 0, none⟩) 4 c, X 13, X 15, undef, undef, undef, undef, undef, undef, undef, undef, undef, undef, undef, undef, .bool true, .slice (some ad) len cap, .slice (some ad) len cap, .int .i64 (len : Int), .int .i64 16, .slice (some ad) 16 cap, .slice (some ⟨g, 0, none⟩) 4 c, X 10, X 0, X 1, X 2, X 3, X 4, X 5, X 6, X 7, X 8, X 9, X 11, X 12, undef, undef, undef, undef, undef, undef, undef, undef, undef, undef, undef, undef, undef, undef, undef, undef, undef, undef, undef, undef, undef, undef, undef, undef, undef, undef, undef, undef, undef, undef, undef, undef, undef, undef, undef, undef, undef, undef, undef, undef, undef, undef, undef, undef, undef, undef, undef, undef, undef, undef, undef, undef, undef, undef, undef, undef, undef, undef, undef, undef, undef, undef, undef, undef, undef, undef, undef, undef, undef, undef, undef, undef, undef, undef, undef, undef, undef, undef, undef, undef, undef, undef, undef, undef, undef, undef, undef, undef, undef, undef, undef, undef, undef, undef, undef, undef, undef, undef, undef, undef, undef, undef, undef, undef, undef, undef, undef, undef, undef, undef, undef, undef, undef, undef, undef, undef, undef, undef, undef, undef, undef, undef, undef, undef, undef, undef, undef, undef, undef, undef, undef, undef, undef, undef, undef, undef, undef, undef, undef, undef, undef, undef, undef, undef, undef, undef, undef, undef, undef, undef, undef, undef, undef, undef, undef, undef, undef, undef, undef, undef, undef, undef, undef, undef, undef, undef, undef, undef, undef, undef, undef, undef, undef, undef, undef, undef, undef, undef, undef, undef, undef, undef, undef, undef, undef, undef, undef, undef, undef, undef], []⟩) [(0, 0, 0), (0, 0, 0), (0, 0, 0), (0, 0, 0), (0, 0, 0), (0, 0, 0), (0, 0, 0), (0, 0, 0), (0, 0, 0), (0, 0, 0), (0, 0, 0), (0, 0, 0), (0, 0, 0), (1, 14, 11), (3, 13, 11), (0, 0, 0)] (fun i => ([[], [], [], [], [], [], [], [], [], [], [], [], [], [.int .i64 0, .int .i64 0, .int .i64 0, .int .i64 0], [], []] : List (List Value)).getD i []) [.val (.slice (some ⟨g, 0, none⟩) 4 c), .val (.pointer (some ⟨g, 0, none⟩)), .val (.agg #[.int .i64 x0, .int .i64 x1, .int .i64 x2]), .val (.slice (some ⟨g, 0, none⟩) 4 c), .val (.pointer (some ⟨g, 3, none⟩)), .val (.agg #[.int .i64 x3, .int .i64 x4, .int .i64 x5]), .val (.slice (some ⟨g, 0, none⟩) 4 c), .val (.pointer (some ⟨g, 6, none⟩)), .val (.agg #[.int .i64 x6, .int .i64 x7, .int .i64 x8]), .val (.tuple #[.agg #[.int .i64 0, .int .i64 0, .int .i64 0, .int .i64 0], .bool false]), .val (.tuple #[.agg #[.int .i64 0, .int .i64 0, .int .i64 0, .int .i64 0], .bool false]), .val (.agg #[.int .i64 0, .int .i64 0, .int .i64 0, .int .i64 0]), .val (.bool false), .none, .none, .val (.bool false)] [[], [0], [1], [], [3], [4], [], [6], [7], [2, 5, 8], [9], [10], [10], [], [11, 13], [12]] [0, 1, 2, 3, 4, 5, 6, 7, 8, 9, 10, 11, 12, 15] [13] [14] [] (fun i => ([0, 0, 0, 0, 0, 0, 0, 0, 0, 0, 0, 0, 0, 39, 0, 0] : List TypeId).getD i 0) W3 (by kernel_rfl) (by kernel_rfl) (by kernel_rfl) (by kernel_rfl) (by kernel_rfl) ?dist ?olds ?op ?al ?st ?into ?fin (fun _ => undef) _ _ (by kernel_rfl) (of_decide_eq_true (by kernel_rfl)) (of_decide_eq_true (by kernel_rfl))
    case hn => rfl
    case dist => intro i hi j hj; simp at hi hj; try omega
    case olds => exact nofun
    case op =>
      repeat' first | exact Each.nil | refine Each.cons ?_ ?_
      all_goals intro X w7 H hb hD h
      · refine tv rfl (by rfl) ?_ (by exact h _ w7 rfl (Below.refl _ _))
        go_simp <;> first | rfl | (simp only [IntWalk.i64_left]; rfl) | (simp only [IntWalk.i64_left, *]; done) | (simp only [IntWalk.i64_left, *]; rfl)
      · have e0_ : X 0 = _ := hD 0 (by decide) rfl
        refine tv rfl (by simp only [e0_]; rfl) ?_ (by exact h _ w7 rfl (Below.refl _ _))
        simp only [e0_]; go_simp <;> first | rfl | (simp only [IntWalk.i64_left]; rfl) | (simp only [IntWalk.i64_left, *]; done) | (simp only [IntWalk.i64_left, *]; rfl)
      · have e1_ : X 1 = _ := hD 1 (by decide) rfl
        have hv := hv.below (show Keep [] _ _ from hb).nil
        have c0_ := hv.at 0 rfl
        have c1_ := hv.at 1 rfl
        have c2_ := hv.at 2 rfl
        refine tv rfl (by simp only [e1_]; rfl) ?_ (by exact h _ w7 rfl (Below.refl _ _))
        simp only [e1_]; go_simp <;> first | rfl | (simp only [IntWalk.i64_left]; rfl) | (simp only [IntWalk.i64_left, *]; done) | (simp only [IntWalk.i64_left, *]; rfl)
      · refine tv rfl (by rfl) ?_ (by exact h _ w7 rfl (Below.refl _ _))
        go_simp <;> first | rfl | (simp only [IntWalk.i64_left]; rfl) | (simp only [IntWalk.i64_left, *]; done) | (simp only [IntWalk.i64_left, *]; rfl)
      · have e3_ : X 3 = _ := hD 3 (by decide) rfl
        refine tv rfl (by simp only [e3_]; rfl) ?_ (by exact h _ w7 rfl (Below.refl _ _))
        simp only [e3_]; go_simp <;> first | rfl | (simp only [IntWalk.i64_left]; rfl) | (simp only [IntWalk.i64_left, *]; done) | (simp only [IntWalk.i64_left, *]; rfl)
      · have e4_ : X 4 = _ := hD 4 (by decide) rfl
        have hv := hv.below (show Keep [] _ _ from hb).nil
        have c0_ := hv.at 3 rfl
        have c1_ := hv.at 4 rfl
        have c2_ := hv.at 5 rfl
        refine tv rfl (by simp only [e4_]; rfl) ?_ (by exact h _ w7 rfl (Below.refl _ _))
        simp only [e4_]; go_simp <;> first | rfl | (simp only [IntWalk.i64_left]; rfl) | (simp only [IntWalk.i64_left, *]; done) | (simp only [IntWalk.i64_left, *]; rfl)
      · refine tv rfl (by rfl) ?_ (by exact h _ w7 rfl (Below.refl _ _))
        go_simp <;> first | rfl | (simp only [IntWalk.i64_left]; rfl) | (simp only [IntWalk.i64_left, *]; done) | (simp only [IntWalk.i64_left, *]; rfl)
      · have e6_ : X 6 = _ := hD 6 (by decide) rfl
        refine tv rfl (by simp only [e6_]; rfl) ?_ (by exact h _ w7 rfl (Below.refl _ _))
        simp only [e6_]; go_simp <;> first | rfl | (simp only [IntWalk.i64_left]; rfl) | (simp only [IntWalk.i64_left, *]; done) | (simp only [IntWalk.i64_left, *]; rfl)
      · have e7_ : X 7 = _ := hD 7 (by decide) rfl
        have hv := hv.below (show Keep [] _ _ from hb).nil
        have c0_ := hv.at 6 rfl
        have c1_ := hv.at 7 rfl
        have c2_ := hv.at 8 rfl
        refine tv rfl (by simp only [e7_]; rfl) ?_ (by exact h _ w7 rfl (Below.refl _ _))
        simp only [e7_]; go_simp <;> first | rfl | (simp only [IntWalk.i64_left]; rfl) | (simp only [IntWalk.i64_left, *]; done) | (simp only [IntWalk.i64_left, *]; rfl)
      · have e2_ : X 2 = _ := hD 2 (by decide) rfl
        have e5_ : X 5 = _ := hD 5 (by decide) rfl
        have e8_ : X 8 = _ := hD 8 (by decide) rfl
        refine wpOp_call (i := 9) (f := 39) (args := #[.agg #[.int .i64 x0, .int .i64 x1, .int .i64 x2], .agg #[.int .i64 x3, .int .i64 x4, .int .i64 x5], .agg #[.int .i64 x6, .int .i64 x7, .int .i64 x8]]) 38 rfl rfl (by simp only [e2_, e5_, e8_]; rfl) (by simp only [e2_, e5_, e8_]; go_simp) ?_
        refine (cT1.out _).mono ?_
        rintro e w8 ⟨rfl, hk⟩
        exact ⟨_, rfl, h _ w8 rfl hk⟩
      · have e9_ : X 9 = _ := hD 9 (by decide) rfl
        refine tv rfl (by simp only [e9_]; rfl) ?_ (by exact h _ w7 rfl (Below.refl _ _))
        simp only [e9_]; go_simp <;> first | rfl | (simp only [IntWalk.i64_left]; rfl) | (simp only [IntWalk.i64_left, *]; done) | (simp only [IntWalk.i64_left, *]; rfl)
      · have e10_ : X 10 = _ := hD 10 (by decide) rfl
        refine tv rfl (by simp only [e10_]; rfl) ?_ (by exact h _ w7 rfl (Below.refl _ _))
        simp only [e10_]; go_simp <;> first | rfl | (simp only [IntWalk.i64_left]; rfl) | (simp only [IntWalk.i64_left, *]; done) | (simp only [IntWalk.i64_left, *]; rfl)
      · have e10_ : X 10 = _ := hD 10 (by decide) rfl
        refine tv rfl (by simp only [e10_]; rfl) ?_ (by exact h _ w7 rfl (Below.refl _ _))
        simp only [e10_]; go_simp <;> first | rfl | (simp only [IntWalk.i64_left]; rfl) | (simp only [IntWalk.i64_left, *]; done) | (simp only [IntWalk.i64_left, *]; rfl)
      · have e12_ : X 12 = _ := hD 12 (by decide) rfl
        refine tv rfl (by simp only [e12_]; rfl) ?_ (by exact h _ w7 rfl (Below.refl _ _))
        simp only [e12_]; go_simp <;> first | rfl | (simp only [IntWalk.i64_left]; rfl) | (simp only [IntWalk.i64_left, *]; done) | (simp only [IntWalk.i64_left, *]; rfl)
    case al =>
      repeat' first | exact Each.nil | refine Each.cons ?_ ?_
      all_goals exact fun X w7 H h => wpOp_run rfl (by go_simp; exact h)
    case st =>
      repeat' first | exact Each.nil | refine Each.cons ?_ ?_
      all_goals intro X w7 H b hX hC hG h
      · replace hX : X 13 = .pointer (some ⟨b, 0, none⟩) := hX
        have e : X 11 = _ := hG
        have c0_ := hC.at 0 rfl
        have z0_ := hC.fr 0 (by decide)
        have c1_ := hC.at 1 rfl
        have z1_ := hC.fr 1 (by decide)
        have c2_ := hC.at 2 rfl
        have z2_ := hC.fr 2 (by decide)
        have c3_ := hC.at 3 rfl
        have z3_ := hC.fr 3 (by decide)
        refine wpOp_run rfl ?_
        have h := h (by show _ = (vc (X 11)).length; rw [e]; rfl)
        simp only [hX] at h ⊢
        replace h : H _ (putC b w7 0 (vc (X 11))) := h
        simp only [e] at h ⊢
        go_simp
        exact h
    case into => exact Each.nil
    case fin =>
      intro X3_ W4 hI
      have hE : Keep [] W3 W4 := hI.keep
      have e11_ : X3_ 11 = _ := hI.fact 11 (by decide) rfl rfl
      have e15_ : X3_ 15 = _ := hI.fact 15 (by decide) rfl rfl
      obtain ⟨b1, e13_, lob1, v1⟩ := hI.box 13 (by decide) rfl (by decide)
      replace v1 : Var W4 b1 (vc (X3_ 11)) := v1
      rw [e11_] at v1
      replace v1 : Var W4 b1 [.int .i64 0, .int .i64 0, .int .i64 0, .int .i64 0] := v1
      replace lob1 : w.heap.size ≤ b1 := Nat.le_trans hB.size lob1
      have v0 := v0.below hE.nil
      have hv := hv.below hE.nil
      have hB := hB.trans (hE.nil.mono hB.size)
      simp only [e11_, e15_, e13_]
      clear e11_ e15_ e13_ hI hE
      go_wp2_with fail
      refine wp_region_dag (by kernel_rfl) ?_
      intro W5 hk
      have hs := hk
      have v0 := v0.below hs
      have hv := hv.below hs
      have v1 := v1.below hs
      have hB := hB.trans (hs.mono hB.size)
      clear hs hk
      refine dagV (fun _ => trivial) 16 ?hn (fun X => ⟨#[.slice (some ad) len cap, .agg #[.int .u8 (e0 : Int), .int .u8 (e1 : Int), .int .u8 (e2 : Int)], undef, .pointer (some ⟨b0, 0, none⟩), .bool false, .bool true, .slice (some ⟨g, 0, none⟩) 4 c, .pointer (some ⟨b1, 0, none⟩), .bool false, X 13, X 15, undef, undef, undef, undef, undef, undef, undef, undef, undef, undef, .bool true, .slice (some ad) len cap, .slice (some ad) len cap, .int .i64 (len : Int), .int .i64 16, .slice (some ad) 16 cap, .slice (some ⟨g, 0, none⟩) 4 c, X3_ 10, X3_ 0, X3_ 1, X3_ 2, X3_ 3, X3_ 4, X3_ 5, X3_ 6, X3_ 7, X3_ 8, X3_ 9, .agg #[.int .i64 0, .int .i64 0, .int .i64 0, .int .i64 0], X3_ 12, X 10, X 0, X 1, X 2, X 3, X 4, X 5, X 6, X 7, X 8, X 9, X 11, X 12, undef, undef, undef, undef, undef, undef, undef, undef, undef, undef, undef, undef, undef, undef, undef, undef, undef, undef, undef, undef, undef, undef, undef, undef, undef, undef, undef, undef, undef, undef, undef, undef, undef, undef, undef, undef, undef, undef, undef, undef, undef, undef, undef, undef, undef, undef, undef, undef, undef, undef, undef, undef, undef, undef, undef, undef, undef, undef, undef, undef, undef, undef, undef, undef, undef, undef, undef, undef, undef, undef, undef, undef, undef, undef, undef, undef, undef, undef, undef, undef, undef, undef, undef, undef, undef, undef, undef, undef, undef, undef, undef, undef, undef, undef, undef, undef, undef, undef, undef, undef, undef, undef, undef, undef, undef, undef, undef, undef, undef, undef, undef, undef, undef, undef, undef, undef, undef, undef, undef, undef, undef, undef, undef, undef, undef, undef, undef, undef, undef, undef, undef, undef, undef, undef, undef, undef, undef, undef, undef, undef, undef, undef, undef, undef, undef, undef, undef, undef, undef, undef, undef, undef, undef, undef, undef, undef, undef, undef, undef, undef, undef, undef, undef, undef, undef, undef, undef, undef, undef, undef, undef, undef, undef, undef, undef, undef, undef], []⟩) [(0, 0, 0), (0, 0, 0), (0, 0, 0), (0, 0, 0), (0, 0, 0), (0, 0, 0), (0, 0, 0), (0, 0, 0), (0, 0, 0), (0, 0, 0), (0, 0, 0), (0, 0, 0), (0, 0, 0), (1, 14, 11), (3, 13, 11), (0, 0, 0)] (fun i => ([[], [], [], [], [], [], [], [], [], [], [], [], [], [.int .i64 0, .int .i64 0, .int .i64 0, .int .i64 0], [], []] : List (List Value)).getD i []) [.val (.slice (some ⟨g, 0, none⟩) 4 c), .val (.pointer (some ⟨g, 3, none⟩)), .val (.agg #[.int .i64 x3, .int .i64 x4, .int .i64 x5]), .val (.slice (some ⟨g, 0, none⟩) 4 c), .val (.pointer (some ⟨g, 6, none⟩)), .val (.agg #[.int .i64 x6, .int .i64 x7, .int .i64 x8]), .val (.slice (some ⟨g, 0, none⟩) 4 c), .val (.pointer (some ⟨g, 0, none⟩)), .val (.agg #[.int .i64 x0, .int .i64 x1, .int .i64 x2]), .val (.tuple #[.agg #[.int .i64 0, .int .i64 0, .int .i64 0, .int .i64 0], .bool false]), .val (.tuple #[.agg #[.int .i64 0, .int .i64 0, .int .i64 0, .int .i64 0], .bool false]), .val (.agg #[.int .i64 0, .int .i64 0, .int .i64 0, .int .i64 0]), .val (.bool false), .none, .none, .val (.bool false)] [[], [0], [1], [], [3], [4], [], [6], [7], [2, 5, 8], [9], [10], [10], [], [11, 13], [12]] [0, 1, 2, 3, 4, 5, 6, 7, 8, 9, 10, 11, 12, 15] [13] [14] [] (fun i => ([0, 0, 0, 0, 0, 0, 0, 0, 0, 0, 0, 0, 0, 39, 0, 0] : List TypeId).getD i 0) W5 (by kernel_rfl) (by kernel_rfl) (by kernel_rfl) (by kernel_rfl) (by kernel_rfl) ?dist ?olds ?op ?al ?st ?into ?fin (fun _ => undef) _ _ (by kernel_rfl) (of_decide_eq_true (by kernel_rfl)) (of_decide_eq_true (by kernel_rfl))
      case hn => rfl
      case dist => intro i hi j hj; simp at hi hj; try omega
      case olds => exact nofun
      case op =>
        repeat' first | exact Each.nil | refine Each.cons ?_ ?_
        all_goals intro X w7 H hb hD h
        · refine tv rfl (by rfl) ?_ (by exact h _ w7 rfl (Below.refl _ _))
          go_simp <;> first | rfl | (simp only [IntWalk.i64_left]; rfl) | (simp only [IntWalk.i64_left, *]; done) | (simp only [IntWalk.i64_left, *]; rfl)
        · have e0_ : X 0 = _ := hD 0 (by decide) rfl
          refine tv rfl (by simp only [e0_]; rfl) ?_ (by exact h _ w7 rfl (Below.refl _ _))
          simp only [e0_]; go_simp <;> first | rfl | (simp only [IntWalk.i64_left]; rfl) | (simp only [IntWalk.i64_left, *]; done) | (simp only [IntWalk.i64_left, *]; rfl)
        · have e1_ : X 1 = _ := hD 1 (by decide) rfl
          have hv := hv.below (show Keep [] _ _ from hb).nil
          have c0_ := hv.at 3 rfl
          have c1_ := hv.at 4 rfl
          have c2_ := hv.at 5 rfl
          refine tv rfl (by simp only [e1_]; rfl) ?_ (by exact h _ w7 rfl (Below.refl _ _))
          simp only [e1_]; go_simp <;> first | rfl | (simp only [IntWalk.i64_left]; rfl) | (simp only [IntWalk.i64_left, *]; done) | (simp only [IntWalk.i64_left, *]; rfl)
        · refine tv rfl (by rfl) ?_ (by exact h _ w7 rfl (Below.refl _ _))
          go_simp <;> first | rfl | (simp only [IntWalk.i64_left]; rfl) | (simp only [IntWalk.i64_left, *]; done) | (simp only [IntWalk.i64_left, *]; rfl)
        · have e3_ : X 3 = _ := hD 3 (by decide) rfl
          refine tv rfl (by simp only [e3_]; rfl) ?_ (by exact h _ w7 rfl (Below.refl _ _))
          simp only [e3_]; go_simp <;> first | rfl | (simp only [IntWalk.i64_left]; rfl) | (simp only [IntWalk.i64_left, *]; done) | (simp only [IntWalk.i64_left, *]; rfl)
        · have e4_ : X 4 = _ := hD 4 (by decide) rfl
          have hv := hv.below (show Keep [] _ _ from hb).nil
          have c0_ := hv.at 6 rfl
          have c1_ := hv.at 7 rfl
          have c2_ := hv.at 8 rfl
          refine tv rfl (by simp only [e4_]; rfl) ?_ (by exact h _ w7 rfl (Below.refl _ _))
          simp only [e4_]; go_simp <;> first | rfl | (simp only [IntWalk.i64_left]; rfl) | (simp only [IntWalk.i64_left, *]; done) | (simp only [IntWalk.i64_left, *]; rfl)
        · refine tv rfl (by rfl) ?_ (by exact h _ w7 rfl (Below.refl _ _))
          go_simp <;> first | rfl | (simp only [IntWalk.i64_left]; rfl) | (simp only [IntWalk.i64_left, *]; done) | (simp only [IntWalk.i64_left, *]; rfl)
        · have e6_ : X 6 = _ := hD 6 (by decide) rfl
          refine tv rfl (by simp only [e6_]; rfl) ?_ (by exact h _ w7 rfl (Below.refl _ _))
          simp only [e6_]; go_simp <;> first | rfl | (simp only [IntWalk.i64_left]; rfl) | (simp only [IntWalk.i64_left, *]; done) | (simp only [IntWalk.i64_left, *]; rfl)
        · have e7_ : X 7 = _ := hD 7 (by decide) rfl
          have hv := hv.below (show Keep [] _ _ from hb).nil
          have c0_ := hv.at 0 rfl
          have c1_ := hv.at 1 rfl
          have c2_ := hv.at 2 rfl
          refine tv rfl (by simp only [e7_]; rfl) ?_ (by exact h _ w7 rfl (Below.refl _ _))
          simp only [e7_]; go_simp <;> first | rfl | (simp only [IntWalk.i64_left]; rfl) | (simp only [IntWalk.i64_left, *]; done) | (simp only [IntWalk.i64_left, *]; rfl)
        · have e2_ : X 2 = _ := hD 2 (by decide) rfl
          have e5_ : X 5 = _ := hD 5 (by decide) rfl
          have e8_ : X 8 = _ := hD 8 (by decide) rfl
          refine wpOp_call (i := 9) (f := 39) (args := #[.agg #[.int .i64 x3, .int .i64 x4, .int .i64 x5], .agg #[.int .i64 x6, .int .i64 x7, .int .i64 x8], .agg #[.int .i64 x0, .int .i64 x1, .int .i64 x2]]) 51 rfl rfl (by simp only [e2_, e5_, e8_]; rfl) (by simp only [e2_, e5_, e8_]; go_simp) ?_
          refine (cT2.out _).mono ?_
          rintro e w8 ⟨rfl, hk⟩
          exact ⟨_, rfl, h _ w8 rfl hk⟩
        · have e9_ : X 9 = _ := hD 9 (by decide) rfl
          refine tv rfl (by simp only [e9_]; rfl) ?_ (by exact h _ w7 rfl (Below.refl _ _))
          simp only [e9_]; go_simp <;> first | rfl | (simp only [IntWalk.i64_left]; rfl) | (simp only [IntWalk.i64_left, *]; done) | (simp only [IntWalk.i64_left, *]; rfl)
        · have e10_ : X 10 = _ := hD 10 (by decide) rfl
          refine tv rfl (by simp only [e10_]; rfl) ?_ (by exact h _ w7 rfl (Below.refl _ _))
          simp only [e10_]; go_simp <;> first | rfl | (simp only [IntWalk.i64_left]; rfl) | (simp only [IntWalk.i64_left, *]; done) | (simp only [IntWalk.i64_left, *]; rfl)
        · have e10_ : X 10 = _ := hD 10 (by decide) rfl
          refine tv rfl (by simp only [e10_]; rfl) ?_ (by exact h _ w7 rfl (Below.refl _ _))
          simp only [e10_]; go_simp <;> first | rfl | (simp only [IntWalk.i64_left]; rfl) | (simp only [IntWalk.i64_left, *]; done) | (simp only [IntWalk.i64_left, *]; rfl)
        · have e12_ : X 12 = _ := hD 12 (by decide) rfl
          refine tv rfl (by simp only [e12_]; rfl) ?_ (by exact h _ w7 rfl (Below.refl _ _))
          simp only [e12_]; go_simp <;> first | rfl | (simp only [IntWalk.i64_left]; rfl) | (simp only [IntWalk.i64_left, *]; done) | (simp only [IntWalk.i64_left, *]; rfl)
      case al =>
        repeat' first | exact Each.nil | refine Each.cons ?_ ?_
        all_goals exact fun X w7 H h => wpOp_run rfl (by go_simp; exact h)
      case st =>
        repeat' first | exact Each.nil | refine Each.cons ?_ ?_
        all_goals intro X w7 H b hX hC hG h
        · replace hX : X 13 = .pointer (some ⟨b, 0, none⟩) := hX
          have e : X 11 = _ := hG
          have c0_ := hC.at 0 rfl
          have z0_ := hC.fr 0 (by decide)
          have c1_ := hC.at 1 rfl
          have z1_ := hC.fr 1 (by decide)
          have c2_ := hC.at 2 rfl
          have z2_ := hC.fr 2 (by decide)
          have c3_ := hC.at 3 rfl
          have z3_ := hC.fr 3 (by decide)
          refine wpOp_run rfl ?_
          have h := h (by show _ = (vc (X 11)).length; rw [e]; rfl)
          simp only [hX] at h ⊢
          replace h : H _ (putC b w7 0 (vc (X 11))) := h
          simp only [e] at h ⊢
          go_simp
          exact h
      case into => exact Each.nil
      case fin =>
        intro X4_ W6 hI
        have hE : Keep [] W5 W6 := hI.keep
        have e11_ : X4_ 11 = _ := hI.fact 11 (by decide) rfl rfl
        have e15_ : X4_ 15 = _ := hI.fact 15 (by decide) rfl rfl
        obtain ⟨b2, e13_, lob2, v2⟩ := hI.box 13 (by decide) rfl (by decide)
        replace v2 : Var W6 b2 (vc (X4_ 11)) := v2
        rw [e11_] at v2
        replace v2 : Var W6 b2 [.int .i64 0, .int .i64 0, .int .i64 0, .int .i64 0] := v2
        replace lob2 : w.heap.size ≤ b2 := Nat.le_trans hB.size lob2
        have v0 := v0.below hE.nil
        have hv := hv.below hE.nil
        have v1 := v1.below hE.nil
        have hB := hB.trans (hE.nil.mono hB.size)
        simp only [e11_, e15_, e13_]
        clear e11_ e15_ e13_ hI hE
        go_wp2_with fail
        refine wp_region_dag (by kernel_rfl) ?_
        intro W7 hk
        have hs := hk
        have v0 := v0.below hs
        have hv := hv.below hs
        have v1 := v1.below hs
        have v2 := v2.below hs
        have hB := hB.trans (hs.mono hB.size)
        clear hs hk
        refine dagV (fun _ => trivial) 16 ?hn (fun X => ⟨#[.slice (some ad) len cap, .agg #[.int .u8 (e0 : Int), .int .u8 (e1 : Int), .int .u8 (e2 : Int)], undef, .pointer (some ⟨b0, 0, none⟩), .bool false, .bool true, .slice (some ⟨g, 0, none⟩) 4 c, .pointer (some ⟨b1, 0, none⟩), .bool false, .pointer (some ⟨b2, 0, none⟩), .bool false, X 13, X 15, undef, undef, undef, undef, undef, undef, undef, undef, .bool true, .slice (some ad) len cap, .slice (some ad) len cap, .int .i64 (len : Int), .int .i64 16, .slice (some ad) 16 cap, .slice (some ⟨g, 0, none⟩) 4 c, X3_ 10, X3_ 0, X3_ 1, X3_ 2, X3_ 3, X3_ 4, X3_ 5, X3_ 6, X3_ 7, X3_ 8, X3_ 9, .agg #[.int .i64 0, .int .i64 0, .int .i64 0, .int .i64 0], X3_ 12, X4_ 10, X4_ 0, X4_ 1, X4_ 2, X4_ 3, X4_ 4, X4_ 5, X4_ 6, X4_ 7, X4_ 8, X4_ 9, .agg #[.int .i64 0, .int .i64 0, .int .i64 0, .int .i64 0], X4_ 12, X 10, X 0, X 1, X 2, X 3, X 4, X 5, X 6, X 7, X 8, X 9, X 11, X 12, undef, undef, undef, undef, undef, undef, undef, undef, undef, undef, undef, undef, undef, undef, undef, undef, undef, undef, undef, undef, undef, undef, undef, undef, undef, undef, undef, undef, undef, undef, undef, undef, undef, undef, undef, undef, undef, undef, undef, undef, undef, undef, undef, undef, undef, undef, undef, undef, undef, undef, undef, undef, undef, undef, undef, undef, undef, undef, undef, undef, undef, undef, undef, undef, undef, undef, undef, undef, undef, undef, undef, undef, undef, undef, undef, undef, undef, undef, undef, undef, undef, undef, undef, undef, undef, undef, undef, undef, undef, undef, undef, undef, undef, undef, undef, undef, undef, undef, undef, undef, undef, undef, undef, undef, undef, undef, undef, undef, undef, undef, undef, undef, undef, undef, undef, undef, undef, undef, undef, undef, undef, undef, undef, undef, undef, undef, undef, undef, undef, undef, undef, undef, undef, undef, undef, undef, undef, undef, undef, undef, undef, undef, undef, undef, undef, undef, undef, undef, undef, undef, undef, undef, undef, undef, undef, undef, undef, undef, undef, undef, undef, undef, undef, undef], []⟩) [(0, 0, 0), (0, 0, 0), (0, 0, 0), (0, 0, 0), (0, 0, 0), (0, 0, 0), (0, 0, 0), (0, 0, 0), (0, 0, 0), (0, 0, 0), (0, 0, 0), (0, 0, 0), (0, 0, 0), (1, 14, 11), (3, 13, 11), (0, 0, 0)] (fun i => ([[], [], [], [], [], [], [], [], [], [], [], [], [], [.int .i64 0, .int .i64 0, .int .i64 0, .int .i64 0], [], []] : List (List Value)).getD i []) [.val (.slice (some ⟨g, 0, none⟩) 4 c), .val (.pointer (some ⟨g, 0, none⟩)), .val (.agg #[.int .i64 x0, .int .i64 x1, .int .i64 x2]), .val (.slice (some ⟨g, 0, none⟩) 4 c), .val (.pointer (some ⟨g, 6, none⟩)), .val (.agg #[.int .i64 x6, .int .i64 x7, .int .i64 x8]), .val (.slice (some ⟨g, 0, none⟩) 4 c), .val (.pointer (some ⟨g, 3, none⟩)), .val (.agg #[.int .i64 x3, .int .i64 x4, .int .i64 x5]), .val (.tuple #[.agg #[.int .i64 0, .int .i64 0, .int .i64 0, .int .i64 0], .bool false]), .val (.tuple #[.agg #[.int .i64 0, .int .i64 0, .int .i64 0, .int .i64 0], .bool false]), .val (.agg #[.int .i64 0, .int .i64 0, .int .i64 0, .int .i64 0]), .val (.bool false), .none, .none, .val (.bool false)] [[], [0], [1], [], [3], [4], [], [6], [7], [2, 5, 8], [9], [10], [10], [], [11, 13], [12]] [0, 1, 2, 3, 4, 5, 6, 7, 8, 9, 10, 11, 12, 15] [13] [14] [] (fun i => ([0, 0, 0, 0, 0, 0, 0, 0, 0, 0, 0, 0, 0, 39, 0, 0] : List TypeId).getD i 0) W7 (by kernel_rfl) (by kernel_rfl) (by kernel_rfl) (by kernel_rfl) (by kernel_rfl) ?dist ?olds ?op ?al ?st ?into ?fin (fun _ => undef) _ _ (by kernel_rfl) (of_decide_eq_true (by kernel_rfl)) (of_decide_eq_true (by kernel_rfl))
        case hn => rfl
        case dist => intro i hi j hj; simp at hi hj; try omega
        case olds => exact nofun
        case op =>
          repeat' first | exact Each.nil | refine Each.cons ?_ ?_
          all_goals intro X w7 H hb hD h
          · refine tv rfl (by rfl) ?_ (by exact h _ w7 rfl (Below.refl _ _))
            go_simp <;> first | rfl | (simp only [IntWalk.i64_left]; rfl) | (simp only [IntWalk.i64_left, *]; done) | (simp only [IntWalk.i64_left, *]; rfl)
          · have e0_ : X 0 = _ := hD 0 (by decide) rfl
            refine tv rfl (by simp only [e0_]; rfl) ?_ (by exact h _ w7 rfl (Below.refl _ _))
            simp only [e0_]; go_simp <;> first | rfl | (simp only [IntWalk.i64_left]; rfl) | (simp only [IntWalk.i64_left, *]; done) | (simp only [IntWalk.i64_left, *]; rfl)
          · have e1_ : X 1 = _ := hD 1 (by decide) rfl
            have hv := hv.below (show Keep [] _ _ from hb).nil
            have c0_ := hv.at 0 rfl
            have c1_ := hv.at 1 rfl
            have c2_ := hv.at 2 rfl
            refine tv rfl (by simp only [e1_]; rfl) ?_ (by exact h _ w7 rfl (Below.refl _ _))
            simp only [e1_]; go_simp <;> first | rfl | (simp only [IntWalk.i64_left]; rfl) | (simp only [IntWalk.i64_left, *]; done) | (simp only [IntWalk.i64_left, *]; rfl)
          · refine tv rfl (by rfl) ?_ (by exact h _ w7 rfl (Below.refl _ _))
            go_simp <;> first | rfl | (simp only [IntWalk.i64_left]; rfl) | (simp only [IntWalk.i64_left, *]; done) | (simp only [IntWalk.i64_left, *]; rfl)
          · have e3_ : X 3 = _ := hD 3 (by decide) rfl
            refine tv rfl (by simp only [e3_]; rfl) ?_ (by exact h _ w7 rfl (Below.refl _ _))
            simp only [e3_]; go_simp <;> first | rfl | (simp only [IntWalk.i64_left]; rfl) | (simp only [IntWalk.i64_left, *]; done) | (simp only [IntWalk.i64_left, *]; rfl)
          · have e4_ : X 4 = _ := hD 4 (by decide) rfl
            have hv := hv.below (show Keep [] _ _ from hb).nil
            have c0_ := hv.at 6 rfl
            have c1_ := hv.at 7 rfl
            have c2_ := hv.at 8 rfl
            refine tv rfl (by simp only [e4_]; rfl) ?_ (by exact h _ w7 rfl (Below.refl _ _))
            simp only [e4_]; go_simp <;> first | rfl | (simp only [IntWalk.i64_left]; rfl) | (simp only [IntWalk.i64_left, *]; done) | (simp only [IntWalk.i64_left, *]; rfl)
          · refine tv rfl (by rfl) ?_ (by exact h _ w7 rfl (Below.refl _ _))
            go_simp <;> first | rfl | (simp only [IntWalk.i64_left]; rfl) | (simp only [IntWalk.i64_left, *]; done) | (simp only [IntWalk.i64_left, *]; rfl)
          · have e6_ : X 6 = _ := hD 6 (by decide) rfl
            refine tv rfl (by simp only [e6_]; rfl) ?_ (by exact h _ w7 rfl (Below.refl _ _))
            simp only [e6_]; go_simp <;> first | rfl | (simp only [IntWalk.i64_left]; rfl) | (simp only [IntWalk.i64_left, *]; done) | (simp only [IntWalk.i64_left, *]; rfl)
          · have e7_ : X 7 = _ := hD 7 (by decide) rfl
            have hv := hv.below (show Keep [] _ _ from hb).nil
            have c0_ := hv.at 3 rfl
            have c1_ := hv.at 4 rfl
            have c2_ := hv.at 5 rfl
            refine tv rfl (by simp only [e7_]; rfl) ?_ (by exact h _ w7 rfl (Below.refl _ _))
            simp only [e7_]; go_simp <;> first | rfl | (simp only [IntWalk.i64_left]; rfl) | (simp only [IntWalk.i64_left, *]; done) | (simp only [IntWalk.i64_left, *]; rfl)
          · have e2_ : X 2 = _ := hD 2 (by decide) rfl
            have e5_ : X 5 = _ := hD 5 (by decide) rfl
            have e8_ : X 8 = _ := hD 8 (by decide) rfl
            refine wpOp_call (i := 9) (f := 39) (args := #[.agg #[.int .i64 x0, .int .i64 x1, .int .i64 x2], .agg #[.int .i64 x6, .int .i64 x7, .int .i64 x8], .agg #[.int .i64 x3, .int .i64 x4, .int .i64 x5]]) 64 rfl rfl (by simp only [e2_, e5_, e8_]; rfl) (by simp only [e2_, e5_, e8_]; go_simp) ?_
            refine (cT3.out _).mono ?_
            rintro e w8 ⟨rfl, hk⟩
            exact ⟨_, rfl, h _ w8 rfl hk⟩
          · have e9_ : X 9 = _ := hD 9 (by decide) rfl
            refine tv rfl (by simp only [e9_]; rfl) ?_ (by exact h _ w7 rfl (Below.refl _ _))
            simp only [e9_]; go_simp <;> first | rfl | (simp only [IntWalk.i64_left]; rfl) | (simp only [IntWalk.i64_left, *]; done) | (simp only [IntWalk.i64_left, *]; rfl)
          · have e10_ : X 10 = _ := hD 10 (by decide) rfl
            refine tv rfl (by simp only [e10_]; rfl) ?_ (by exact h _ w7 rfl (Below.refl _ _))
            simp only [e10_]; go_simp <;> first | rfl | (simp only [IntWalk.i64_left]; rfl) | (simp only [IntWalk.i64_left, *]; done) | (simp only [IntWalk.i64_left, *]; rfl)
          · have e10_ : X 10 = _ := hD 10 (by decide) rfl
            refine tv rfl (by simp only [e10_]; rfl) ?_ (by exact h _ w7 rfl (Below.refl _ _))
            simp only [e10_]; go_simp <;> first | rfl | (simp only [IntWalk.i64_left]; rfl) | (simp only [IntWalk.i64_left, *]; done) | (simp only [IntWalk.i64_left, *]; rfl)
          · have e12_ : X 12 = _ := hD 12 (by decide) rfl
            refine tv rfl (by simp only [e12_]; rfl) ?_ (by exact h _ w7 rfl (Below.refl _ _))
            simp only [e12_]; go_simp <;> first | rfl | (simp only [IntWalk.i64_left]; rfl) | (simp only [IntWalk.i64_left, *]; done) | (simp only [IntWalk.i64_left, *]; rfl)
        case al =>
          repeat' first | exact Each.nil | refine Each.cons ?_ ?_
          all_goals exact fun X w7 H h => wpOp_run rfl (by go_simp; exact h)
        case st =>
          repeat' first | exact Each.nil | refine Each.cons ?_ ?_
          all_goals intro X w7 H b hX hC hG h
          · replace hX : X 13 = .pointer (some ⟨b, 0, none⟩) := hX
            have e : X 11 = _ := hG
            have c0_ := hC.at 0 rfl
            have z0_ := hC.fr 0 (by decide)
            have c1_ := hC.at 1 rfl
            have z1_ := hC.fr 1 (by decide)
            have c2_ := hC.at 2 rfl
            have z2_ := hC.fr 2 (by decide)
            have c3_ := hC.at 3 rfl
            have z3_ := hC.fr 3 (by decide)
            refine wpOp_run rfl ?_
            have h := h (by show _ = (vc (X 11)).length; rw [e]; rfl)
            simp only [hX] at h ⊢
            replace h : H _ (putC b w7 0 (vc (X 11))) := h
            simp only [e] at h ⊢
            go_simp
            exact h
        case into => exact Each.nil
        case fin =>
          intro X5_ W8 hI
          have hE : Keep [] W7 W8 := hI.keep
          have e11_ : X5_ 11 = _ := hI.fact 11 (by decide) rfl rfl
          have e15_ : X5_ 15 = _ := hI.fact 15 (by decide) rfl rfl
          obtain ⟨b3, e13_, lob3, v3⟩ := hI.box 13 (by decide) rfl (by decide)
          replace v3 : Var W8 b3 (vc (X5_ 11)) := v3
          rw [e11_] at v3
          replace v3 : Var W8 b3 [.int .i64 0, .int .i64 0, .int .i64 0, .int .i64 0] := v3
          replace lob3 : w.heap.size ≤ b3 := Nat.le_trans hB.size lob3
          have v0 := v0.below hE.nil
          have hv := hv.below hE.nil
          have v1 := v1.below hE.nil
          have v2 := v2.below hE.nil
          have hB := hB.trans (hE.nil.mono hB.size)
          simp only [e11_, e15_, e13_]
          clear e11_ e15_ e13_ hI hE
          go_wp2_with fail
          refine wp_region_dag (by kernel_rfl) ?_
          intro W9 hk
          have hs := hk
          have v0 := v0.below hs
          have hv := hv.below hs
          have v1 := v1.below hs
          have v2 := v2.below hs
          have v3 := v3.below hs
          have hB := hB.trans (hs.mono hB.size)
          clear hs hk
          refine dagV (fun _ => trivial) 18 ?hn (fun X => ⟨#[.slice (some ad) len cap, .agg #[.int .u8 (e0 : Int), .int .u8 (e1 : Int), .int .u8 (e2 : Int)], undef, .pointer (some ⟨b0, 0, none⟩), .bool false, .bool true, .slice (some ⟨g, 0, none⟩) 4 c, .pointer (some ⟨b1, 0, none⟩), .bool false, .pointer (some ⟨b2, 0, none⟩), .bool false, .pointer (some ⟨b3, 0, none⟩), .bool false, X 17, undef, undef, undef, undef, undef, undef, undef, .bool true, .slice (some ad) len cap, .slice (some ad) len cap, .int .i64 (len : Int), .int .i64 16, .slice (some ad) 16 cap, .slice (some ⟨g, 0, none⟩) 4 c, X3_ 10, X3_ 0, X3_ 1, X3_ 2, X3_ 3, X3_ 4, X3_ 5, X3_ 6, X3_ 7, X3_ 8, X3_ 9, .agg #[.int .i64 0, .int .i64 0, .int .i64 0, .int .i64 0], X3_ 12, X4_ 10, X4_ 0, X4_ 1, X4_ 2, X4_ 3, X4_ 4, X4_ 5, X4_ 6, X4_ 7, X4_ 8, X4_ 9, .agg #[.int .i64 0, .int .i64 0, .int .i64 0, .int .i64 0], X4_ 12, X5_ 10, X5_ 0, X5_ 1, X5_ 2, X5_ 3, X5_ 4, X5_ 5, X5_ 6, X5_ 7, X5_ 8, X5_ 9, .agg #[.int .i64 0, .int .i64 0, .int .i64 0, .int .i64 0], X5_ 12, X 0, X 1, X 2, X 3, X 4, X 5, X 6, X 7, X 8, X 9, X 10, X 11, X 12, X 13, X 14, X 15, X 16, undef, undef, undef, undef, undef, undef, undef, undef, undef, undef, undef, undef, undef, undef, undef, undef, undef, undef, undef, undef, undef, undef, undef, undef, undef, undef, undef, undef, undef, undef, undef, undef, undef, undef, undef, undef, undef, undef, undef, undef, undef, undef, undef, undef, undef, undef, undef, undef, undef, undef, undef, undef, undef, undef, undef, undef, undef, undef, undef, undef, undef, undef, undef, undef, undef, undef, undef, undef, undef, undef, undef, undef, undef, undef, undef, undef, undef, undef, undef, undef, undef, undef, undef, undef, undef, undef, undef, undef, undef, undef, undef, undef, undef, undef, undef, undef, undef, undef, undef, undef, undef, undef, undef, undef, undef, undef, undef, undef, undef, undef, undef, undef, undef, undef, undef, undef, undef, undef, undef, undef, undef, undef, undef, undef, undef, undef, undef, undef, undef, undef, undef, undef, undef, undef, undef, undef, undef, undef, undef, undef, undef, undef, undef, undef, undef, undef, undef], []⟩) [(0, 0, 0), (0, 0, 0), (0, 0, 0), (0, 0, 0), (0, 0, 0), (0, 0, 0), (0, 0, 0), (0, 0, 0), (0, 0, 0), (0, 0, 0), (0, 0, 0), (0, 0, 0), (0, 0, 0), (0, 0, 0), (0, 0, 0), (0, 0, 0), (0, 0, 0), (0, 0, 0)] (fun _ => []) [.val (.slice (some ⟨g, 0, none⟩) 4 c), .val (.pointer (some ⟨g, 3, none⟩)), .val (.agg #[.int .i64 x3, .int .i64 x4, .int .i64 x5]), .val (.slice (some ⟨g, 0, none⟩) 4 c), .val (.pointer (some ⟨g, 0, none⟩)), .val (.agg #[.int .i64 x0, .int .i64 x1, .int .i64 x2]), .val (.agg #[.int .i64 (wrap64 (x3 - x0)), .int .i64 (wrap64 (x4 - x1)), .int .i64 (wrap64 (x5 - x2))]), .val (.slice (some ⟨g, 0, none⟩) 4 c), .val (.pointer (some ⟨g, 6, none⟩)), .val (.agg #[.int .i64 x6, .int .i64 x7, .int .i64 x8]), .val (.slice (some ⟨g, 0, none⟩) 4 c), .val (.pointer (some ⟨g, 0, none⟩)), .val (.agg #[.int .i64 x0, .int .i64 x1, .int .i64 x2]), .val (.agg #[.int .i64 (wrap64 (x6 - x0)), .int .i64 (wrap64 (x7 - x1)), .int .i64 (wrap64 (x8 - x2))]), .val (.agg #[.int .i64 0, .int .i64 0, .int .i64 0]), .val (.agg #[.int .i64 0, .int .i64 0, .int .i64 0]), .val (.bool true), .val (.bool true)] [[], [0], [1], [], [3], [4], [2, 5], [], [7], [8], [], [10], [11], [9, 12], [6, 13], [], [14, 15], [16]] [0, 1, 2, 3, 4, 5, 6, 7, 8, 9, 10, 11, 12, 13, 14, 15, 16, 17] [] [] [] (fun _ => 0) W9 (by kernel_rfl) (by kernel_rfl) (by kernel_rfl) (by kernel_rfl) (by kernel_rfl) ?dist ?olds ?op ?al ?st ?into ?fin (fun _ => undef) _ _ (by kernel_rfl) (of_decide_eq_true (by kernel_rfl)) (of_decide_eq_true (by kernel_rfl))
          case hn => rfl
          case dist => intro i hi j hj; simp at hi hj; try omega
          case olds => exact nofun
          case op =>
            repeat' first | exact Each.nil | refine Each.cons ?_ ?_
            all_goals intro X w7 H hb hD h
            · refine tv rfl (by rfl) ?_ (by exact h _ w7 rfl (Below.refl _ _))
              go_simp <;> first | rfl | (simp only [IntWalk.i64_left]; rfl) | (simp only [IntWalk.i64_left, *]; done) | (simp only [IntWalk.i64_left, *]; rfl)
            · have e0_ : X 0 = _ := hD 0 (by decide) rfl
              refine tv rfl (by simp only [e0_]; rfl) ?_ (by exact h _ w7 rfl (Below.refl _ _))
              simp only [e0_]; go_simp <;> first | rfl | (simp only [IntWalk.i64_left]; rfl) | (simp only [IntWalk.i64_left, *]; done) | (simp only [IntWalk.i64_left, *]; rfl)
            · have e1_ : X 1 = _ := hD 1 (by decide) rfl
              have hv := hv.below (show Keep [] _ _ from hb).nil
              have c0_ := hv.at 3 rfl
              have c1_ := hv.at 4 rfl
              have c2_ := hv.at 5 rfl
              refine tv rfl (by simp only [e1_]; rfl) ?_ (by exact h _ w7 rfl (Below.refl _ _))
              simp only [e1_]; go_simp <;> first | rfl | (simp only [IntWalk.i64_left]; rfl) | (simp only [IntWalk.i64_left, *]; done) | (simp only [IntWalk.i64_left, *]; rfl)
            · refine tv rfl (by rfl) ?_ (by exact h _ w7 rfl (Below.refl _ _))
              go_simp <;> first | rfl | (simp only [IntWalk.i64_left]; rfl) | (simp only [IntWalk.i64_left, *]; done) | (simp only [IntWalk.i64_left, *]; rfl)
            · have e3_ : X 3 = _ := hD 3 (by decide) rfl
              refine tv rfl (by simp only [e3_]; rfl) ?_ (by exact h _ w7 rfl (Below.refl _ _))
              simp only [e3_]; go_simp <;> first | rfl | (simp only [IntWalk.i64_left]; rfl) | (simp only [IntWalk.i64_left, *]; done) | (simp only [IntWalk.i64_left, *]; rfl)
            · have e4_ : X 4 = _ := hD 4 (by decide) rfl
              have hv := hv.below (show Keep [] _ _ from hb).nil
              have c0_ := hv.at 0 rfl
              have c1_ := hv.at 1 rfl
              have c2_ := hv.at 2 rfl
              refine tv rfl (by simp only [e4_]; rfl) ?_ (by exact h _ w7 rfl (Below.refl _ _))
              simp only [e4_]; go_simp <;> first | rfl | (simp only [IntWalk.i64_left]; rfl) | (simp only [IntWalk.i64_left, *]; done) | (simp only [IntWalk.i64_left, *]; rfl)
            · have e2_ : X 2 = _ := hD 2 (by decide) rfl
              have e5_ : X 5 = _ := hD 5 (by decide) rfl
              refine wpOp_call (i := 6) (f := 17) (args := #[.agg #[.int .i64 x3, .int .i64 x4, .int .i64 x5], .agg #[.int .i64 x0, .int .i64 x1, .int .i64 x2]]) 73 rfl rfl (by simp only [e2_, e5_]; rfl) (by simp only [e2_, e5_]; go_simp) ?_
              refine (sub_p x3 x4 x5 x0 x1 x2 _).mono ?_
              rintro e w8 ⟨rfl, hk⟩
              exact ⟨_, rfl, h _ w8 rfl hk⟩
            · refine tv rfl (by rfl) ?_ (by exact h _ w7 rfl (Below.refl _ _))
              go_simp <;> first | rfl | (simp only [IntWalk.i64_left]; rfl) | (simp only [IntWalk.i64_left, *]; done) | (simp only [IntWalk.i64_left, *]; rfl)
            · have e7_ : X 7 = _ := hD 7 (by decide) rfl
              refine tv rfl (by simp only [e7_]; rfl) ?_ (by exact h _ w7 rfl (Below.refl _ _))
              simp only [e7_]; go_simp <;> first | rfl | (simp only [IntWalk.i64_left]; rfl) | (simp only [IntWalk.i64_left, *]; done) | (simp only [IntWalk.i64_left, *]; rfl)
            · have e8_ : X 8 = _ := hD 8 (by decide) rfl
              have hv := hv.below (show Keep [] _ _ from hb).nil
              have c0_ := hv.at 6 rfl
              have c1_ := hv.at 7 rfl
              have c2_ := hv.at 8 rfl
              refine tv rfl (by simp only [e8_]; rfl) ?_ (by exact h _ w7 rfl (Below.refl _ _))
              simp only [e8_]; go_simp <;> first | rfl | (simp only [IntWalk.i64_left]; rfl) | (simp only [IntWalk.i64_left, *]; done) | (simp only [IntWalk.i64_left, *]; rfl)
            · refine tv rfl (by rfl) ?_ (by exact h _ w7 rfl (Below.refl _ _))
              go_simp <;> first | rfl | (simp only [IntWalk.i64_left]; rfl) | (simp only [IntWalk.i64_left, *]; done) | (simp only [IntWalk.i64_left, *]; rfl)
            · have e10_ : X 10 = _ := hD 10 (by decide) rfl
              refine tv rfl (by simp only [e10_]; rfl) ?_ (by exact h _ w7 rfl (Below.refl _ _))
              simp only [e10_]; go_simp <;> first | rfl | (simp only [IntWalk.i64_left]; rfl) | (simp only [IntWalk.i64_left, *]; done) | (simp only [IntWalk.i64_left, *]; rfl)
            · have e11_ : X 11 = _ := hD 11 (by decide) rfl
              have hv := hv.below (show Keep [] _ _ from hb).nil
              have c0_ := hv.at 0 rfl
              have c1_ := hv.at 1 rfl
              have c2_ := hv.at 2 rfl
              refine tv rfl (by simp only [e11_]; rfl) ?_ (by exact h _ w7 rfl (Below.refl _ _))
              simp only [e11_]; go_simp <;> first | rfl | (simp only [IntWalk.i64_left]; rfl) | (simp only [IntWalk.i64_left, *]; done) | (simp only [IntWalk.i64_left, *]; rfl)
            · have e9_ : X 9 = _ := hD 9 (by decide) rfl
              have e12_ : X 12 = _ := hD 12 (by decide) rfl
              refine wpOp_call (i := 13) (f := 17) (args := #[.agg #[.int .i64 x6, .int .i64 x7, .int .i64 x8], .agg #[.int .i64 x0, .int .i64 x1, .int .i64 x2]]) 80 rfl rfl (by simp only [e9_, e12_]; rfl) (by simp only [e9_, e12_]; go_simp) ?_
              refine (sub_p x6 x7 x8 x0 x1 x2 _).mono ?_
              rintro e w8 ⟨rfl, hk⟩
              exact ⟨_, rfl, h _ w8 rfl hk⟩
            · have e6_ : X 6 = _ := hD 6 (by decide) rfl
              have e13_ : X 13 = _ := hD 13 (by decide) rfl
              refine wpOp_call (i := 14) (f := 21) (args := #[.agg #[.int .i64 (wrap64 (x3 - x0)), .int .i64 (wrap64 (x4 - x1)), .int .i64 (wrap64 (x5 - x2))], .agg #[.int .i64 (wrap64 (x6 - x0)), .int .i64 (wrap64 (x7 - x1)), .int .i64 (wrap64 (x8 - x2))]]) 81 rfl rfl (by simp only [e6_, e13_]; rfl) (by simp only [e6_, e13_]; go_simp) ?_
              refine (cC.out _).mono ?_
              rintro e w8 ⟨rfl, hk⟩
              exact ⟨_, rfl, h _ w8 rfl hk⟩
            · refine tv rfl (by rfl) ?_ (by exact h _ w7 rfl (Below.refl _ _))
              go_simp <;> first | rfl | (simp only [IntWalk.i64_left]; rfl) | (simp only [IntWalk.i64_left, *]; done) | (simp only [IntWalk.i64_left, *]; rfl)
            · have e14_ : X 14 = _ := hD 14 (by decide) rfl
              have e15_ : X 15 = _ := hD 15 (by decide) rfl
              refine tv rfl (by simp only [e14_, e15_]; rfl) ?_ (by exact h _ w7 rfl (Below.refl _ _))
              simp only [e14_, e15_]; go_simp <;> first | rfl | (simp only [IntWalk.i64_left]; rfl) | (simp only [IntWalk.i64_left, *]; done) | (simp only [IntWalk.i64_left, *]; rfl)
            · have e16_ : X 16 = _ := hD 16 (by decide) rfl
              refine tv rfl (by simp only [e16_]; rfl) ?_ (by exact h _ w7 rfl (Below.refl _ _))
              simp only [e16_]; go_simp <;> first | rfl | (simp only [IntWalk.i64_left]; rfl) | (simp only [IntWalk.i64_left, *]; done) | (simp only [IntWalk.i64_left, *]; rfl)
          case al => exact Each.nil
          case st => exact Each.nil
          case into => exact Each.nil
          case fin =>
            intro X6_ W10 hI
            have hE : Keep [] W9 W10 := hI.keep
            have e17_ : X6_ 17 = _ := hI.fact 17 (by decide) rfl rfl
            have v0 := v0.below hE.nil
            have hv := hv.below hE.nil
            have v1 := v1.below hE.nil
            have v2 := v2.below hE.nil
            have v3 := v3.below hE.nil
            have hB := hB.trans (hE.nil.mono hB.size)
            simp only [e17_]
            clear e17_ hI hE
            have cb1_0 := v1.at 0 rfl
            have cb1_1 := v1.at 1 rfl
            have cb1_2 := v1.at 2 rfl
            have cb1_3 := v1.at 3 rfl
            go_wp2_with fail
            have hBs := hB.size
            go_ret
            exact ⟨rfl, by repeat (first | exact hB | refine Below.alloc ?_ (by first | omega | (simp; try omega)) _ | refine Below.setCell ?_ (by first | omega | (simp; try omega)) _)⟩
  · obtain ⟨pi, pj, pk, pd, ni, nj, nk, nd, sv, q, c1, c2, c3, m0, m1, m2, m3, m4, m5, m6, m7, m8, z0, z1, z2, cT1, cT2, cT3, cC, hne, cF1, cF2, cV1, cV2, cS1, cS2, cO0, cO1, cO2, cD, cA0, cA1, cA2, cI0, cI1, cI2, cT4⟩ := sides_facts hP0 hP1 hP2 hP3 ht1.out ht2.out ht3.out hflat
    clear hflat
    go_wp2_with fail
    refine wp_region_dag (by kernel_rfl) ?_
    intro W3 hk
    have hs := hk
    have v0 := v0.below hs
    have hv := hv.below hs
    have hB := hB.trans (hs.mono hB.size)
    clear hs hk
    refine dagV (fun _ => trivial) 16 ?hn (fun X => ⟨#[.slice (some ad) len cap, .agg #[.int .u8 (e0 : Int), .int .u8 (e1 : Int), .int .u8 (e2 : Int)], undef, .pointer (some ⟨b0, 0, none⟩), .bool false, .bool true, .slice (some ⟨g, 0, none⟩) 4 c, X 13, X 15, undef, undef, undef, undef, undef, undef, undef, undef, undef, undef, undef, undef, .bool true, .slice (some ad) len cap, .slice (some ad) len cap, .int .i64 (len : Int), .int .i64 16, .slice (some ad) 16 cap, .slice (some ⟨g, 0, none⟩) 4 c, X 10, X 0, X 1, X 2, X 3, X 4, X 5, X 6, X 7, X 8, X 9, X 11, X 12, undef, undef, undef, undef, undef, undef, undef, undef, undef, undef, undef, undef, undef, undef, undef, undef, undef, undef, undef, undef, undef, undef, undef, undef, undef, undef, undef, undef, undef, undef, undef, undef, undef, undef, undef, undef, undef, undef, undef, undef, undef, undef, undef, undef, undef, undef, undef, undef, undef, undef, undef, undef, undef, undef, undef, undef, undef, undef, undef, undef, undef, undef, undef, undef, undef, undef, undef, undef, undef, undef, undef, undef, undef, undef, undef, undef, undef, undef, undef, undef, undef, undef, undef, undef, undef, undef, undef, undef, undef, undef, undef, undef, undef, undef, undef, undef, undef, undef, undef, undef, undef, undef, undef, undef, undef, undef, undef, undef, undef, undef, undef, undef, undef, undef, undef, undef, undef, undef, undef, undef, undef, undef, undef, undef, undef, undef, undef, undef, undef, undef, undef, undef, undef, undef, undef, undef, undef, undef, undef, undef, undef, undef, undef, undef, undef, undef, undef, undef, undef, undef, undef, undef, undef, undef, undef, undef, undef, undef, undef, undef, undef, undef, undef, undef, undef, undef, undef, undef, undef, undef, undef, undef, undef, undef, undef, undef, undef, undef, undef, undef, undef, undef, undef, undef, undef, undef, undef, undef, undef, undef], []⟩) [(0, 0, 0), (0, 0, 0), (0, 0, 0), (0, 0, 0), (0, 0, 0), (0, 0, 0), (0, 0, 0), (0, 0, 0), (0, 0, 0), (0, 0, 0), (0, 0, 0), (0, 0, 0), (0, 0, 0), (1, 14, 11), (3, 13, 11), (0, 0, 0)] (fun i => ([[], [], [], [], [], [], [], [], [], [], [], [], [], [.int .i64 0, .int .i64 0, .int .i64 0, .int .i64 0], [], []] : List (List Value)).getD i []) [.val (.slice (some ⟨g, 0, none⟩) 4 c), .val (.pointer (some ⟨g, 0, none⟩)), .val (.agg #[.int .i64 x0, .int .i64 x1, .int .i64 x2]), .val (.slice (some ⟨g, 0, none⟩) 4 c), .val (.pointer (some ⟨g, 3, none⟩)), .val (.agg #[.int .i64 x3, .int .i64 x4, .int .i64 x5]), .val (.slice (some ⟨g, 0, none⟩) 4 c), .val (.pointer (some ⟨g, 6, none⟩)), .val (.agg #[.int .i64 x6, .int .i64 x7, .int .i64 x8]), .val (.tuple #[.agg #[.int .i64 pi, .int .i64 pj, .int .i64 pk, .int .i64 pd], .bool true]), .val (.tuple #[.agg #[.int .i64 pi, .int .i64 pj, .int .i64 pk, .int .i64 pd], .bool true]), .val (.agg #[.int .i64 pi, .int .i64 pj, .int .i64 pk, .int .i64 pd]), .val (.bool true), .none, .none, .val (.bool true)] [[], [0], [1], [], [3], [4], [], [6], [7], [2, 5, 8], [9], [10], [10], [], [11, 13], [12]] [0, 1, 2, 3, 4, 5, 6, 7, 8, 9, 10, 11, 12, 15] [13] [14] [] (fun i => ([0, 0, 0, 0, 0, 0, 0, 0, 0, 0, 0, 0, 0, 39, 0, 0] : List TypeId).getD i 0) W3 (by kernel_rfl) (by kernel_rfl) (by kernel_rfl) (by kernel_rfl) (by kernel_rfl) ?dist ?olds ?op ?al ?st ?into ?fin (fun _ => undef) _ _ (by kernel_rfl) (of_decide_eq_true (by kernel_rfl)) (of_decide_eq_true (by kernel_rfl))
    case hn => rfl
    case dist => intro i hi j hj; simp at hi hj; try omega
    case olds => exact nofun
    case op =>
      repeat' first | exact Each.nil | refine Each.cons ?_ ?_
      all_goals intro X w7 H hb hD h
      · refine tv rfl (by rfl) ?_ (by exact h _ w7 rfl (Below.refl _ _))
        go_simp <;> first | rfl | (simp only [IntWalk.i64_left]; rfl) | (simp only [IntWalk.i64_left, *]; done) | (simp only [IntWalk.i64_left, *]; rfl)
      · have e0_ : X 0 = _ := hD 0 (by decide) rfl
        refine tv rfl (by simp only [e0_]; rfl) ?_ (by exact h _ w7 rfl (Below.refl _ _))
        simp only [e0_]; go_simp <;> first | rfl | (simp only [IntWalk.i64_left]; rfl) | (simp only [IntWalk.i64_left, *]; done) | (simp only [IntWalk.i64_left, *]; rfl)
      · have e1_ : X 1 = _ := hD 1 (by decide) rfl
        have hv := hv.below (show Keep [] _ _ from hb).nil
        have c0_ := hv.at 0 rfl
        have c1_ := hv.at 1 rfl
        have c2_ := hv.at 2 rfl
        refine tv rfl (by simp only [e1_]; rfl) ?_ (by exact h _ w7 rfl (Below.refl _ _))
        simp only [e1_]; go_simp <;> first | rfl | (simp only [IntWalk.i64_left]; rfl) | (simp only [IntWalk.i64_left, *]; done) | (simp only [IntWalk.i64_left, *]; rfl)
      · refine tv rfl (by rfl) ?_ (by exact h _ w7 rfl (Below.refl _ _))
        go_simp <;> first | rfl | (simp only [IntWalk.i64_left]; rfl) | (simp only [IntWalk.i64_left, *]; done) | (simp only [IntWalk.i64_left, *]; rfl)
      · have e3_ : X 3 = _ := hD 3 (by decide) rfl
        refine tv rfl (by simp only [e3_]; rfl) ?_ (by exact h _ w7 rfl (Below.refl _ _))
        simp only [e3_]; go_simp <;> first | rfl | (simp only [IntWalk.i64_left]; rfl) | (simp only [IntWalk.i64_left, *]; done) | (simp only [IntWalk.i64_left, *]; rfl)
      · have e4_ : X 4 = _ := hD 4 (by decide) rfl
        have hv := hv.below (show Keep [] _ _ from hb).nil
        have c0_ := hv.at 3 rfl
        have c1_ := hv.at 4 rfl
        have c2_ := hv.at 5 rfl
        refine tv rfl (by simp only [e4_]; rfl) ?_ (by exact h _ w7 rfl (Below.refl _ _))
        simp only [e4_]; go_simp <;> first | rfl | (simp only [IntWalk.i64_left]; rfl) | (simp only [IntWalk.i64_left, *]; done) | (simp only [IntWalk.i64_left, *]; rfl)
      · refine tv rfl (by rfl) ?_ (by exact h _ w7 rfl (Below.refl _ _))
        go_simp <;> first | rfl | (simp only [IntWalk.i64_left]; rfl) | (simp only [IntWalk.i64_left, *]; done) | (simp only [IntWalk.i64_left, *]; rfl)
      · have e6_ : X 6 = _ := hD 6 (by decide) rfl
        refine tv rfl (by simp only [e6_]; rfl) ?_ (by exact h _ w7 rfl (Below.refl _ _))
        simp only [e6_]; go_simp <;> first | rfl | (simp only [IntWalk.i64_left]; rfl) | (simp only [IntWalk.i64_left, *]; done) | (simp only [IntWalk.i64_left, *]; rfl)
      · have e7_ : X 7 = _ := hD 7 (by decide) rfl
        have hv := hv.below (show Keep [] _ _ from hb).nil
        have c0_ := hv.at 6 rfl
        have c1_ := hv.at 7 rfl
        have c2_ := hv.at 8 rfl
        refine tv rfl (by simp only [e7_]; rfl) ?_ (by exact h _ w7 rfl (Below.refl _ _))
        simp only [e7_]; go_simp <;> first | rfl | (simp only [IntWalk.i64_left]; rfl) | (simp only [IntWalk.i64_left, *]; done) | (simp only [IntWalk.i64_left, *]; rfl)
      · have e2_ : X 2 = _ := hD 2 (by decide) rfl
        have e5_ : X 5 = _ := hD 5 (by decide) rfl
        have e8_ : X 8 = _ := hD 8 (by decide) rfl
        refine wpOp_call (i := 9) (f := 39) (args := #[.agg #[.int .i64 x0, .int .i64 x1, .int .i64 x2], .agg #[.int .i64 x3, .int .i64 x4, .int .i64 x5], .agg #[.int .i64 x6, .int .i64 x7, .int .i64 x8]]) 38 rfl rfl (by simp only [e2_, e5_, e8_]; rfl) (by simp only [e2_, e5_, e8_]; go_simp) ?_
        refine (cT1.out _).mono ?_
        rintro e w8 ⟨rfl, hk⟩
        exact ⟨_, rfl, h _ w8 rfl hk⟩
      · have e9_ : X 9 = _ := hD 9 (by decide) rfl
        refine tv rfl (by simp only [e9_]; rfl) ?_ (by exact h _ w7 rfl (Below.refl _ _))
        simp only [e9_]; go_simp <;> first | rfl | (simp only [IntWalk.i64_left]; rfl) | (simp only [IntWalk.i64_left, *]; done) | (simp only [IntWalk.i64_left, *]; rfl)
      · have e10_ : X 10 = _ := hD 10 (by decide) rfl
        refine tv rfl (by simp only [e10_]; rfl) ?_ (by exact h _ w7 rfl (Below.refl _ _))
        simp only [e10_]; go_simp <;> first | rfl | (simp only [IntWalk.i64_left]; rfl) | (simp only [IntWalk.i64_left, *]; done) | (simp only [IntWalk.i64_left, *]; rfl)
      · have e10_ : X 10 = _ := hD 10 (by decide) rfl
        refine tv rfl (by simp only [e10_]; rfl) ?_ (by exact h _ w7 rfl (Below.refl _ _))
        simp only [e10_]; go_simp <;> first | rfl | (simp only [IntWalk.i64_left]; rfl) | (simp only [IntWalk.i64_left, *]; done) | (simp only [IntWalk.i64_left, *]; rfl)
      · have e12_ : X 12 = _ := hD 12 (by decide) rfl
        refine tv rfl (by simp only [e12_]; rfl) ?_ (by exact h _ w7 rfl (Below.refl _ _))
        simp only [e12_]; go_simp <;> first | rfl | (simp only [IntWalk.i64_left]; rfl) | (simp only [IntWalk.i64_left, *]; done) | (simp only [IntWalk.i64_left, *]; rfl)
    case al =>
      repeat' first | exact Each.nil | refine Each.cons ?_ ?_
      all_goals exact fun X w7 H h => wpOp_run rfl (by go_simp; exact h)
    case st =>
      repeat' first | exact Each.nil | refine Each.cons ?_ ?_
      all_goals intro X w7 H b hX hC hG h
      · replace hX : X 13 = .pointer (some ⟨b, 0, none⟩) := hX
        have e : X 11 = _ := hG
        have c0_ := hC.at 0 rfl
        have z0_ := hC.fr 0 (by decide)
        have c1_ := hC.at 1 rfl
        have z1_ := hC.fr 1 (by decide)
        have c2_ := hC.at 2 rfl
        have z2_ := hC.fr 2 (by decide)
        have c3_ := hC.at 3 rfl
        have z3_ := hC.fr 3 (by decide)
        refine wpOp_run rfl ?_
        have h := h (by show _ = (vc (X 11)).length; rw [e]; rfl)
        simp only [hX] at h ⊢
        replace h : H _ (putC b w7 0 (vc (X 11))) := h
        simp only [e] at h ⊢
        go_simp
        exact h
    case into => exact Each.nil
    case fin =>
      intro X3_ W4 hI
      have hE : Keep [] W3 W4 := hI.keep
      have e11_ : X3_ 11 = _ := hI.fact 11 (by decide) rfl rfl
      have e15_ : X3_ 15 = _ := hI.fact 15 (by decide) rfl rfl
      obtain ⟨b1, e13_, lob1, v1⟩ := hI.box 13 (by decide) rfl (by decide)
      replace v1 : Var W4 b1 (vc (X3_ 11)) := v1
      rw [e11_] at v1
      replace v1 : Var W4 b1 [.int .i64 pi, .int .i64 pj, .int .i64 pk, .int .i64 pd] := v1
      replace lob1 : w.heap.size ≤ b1 := Nat.le_trans hB.size lob1
      have v0 := v0.below hE.nil
      have hv := hv.below hE.nil
      have hB := hB.trans (hE.nil.mono hB.size)
      simp only [e11_, e15_, e13_]
      clear e11_ e15_ e13_ hI hE
      go_wp2_with fail
      refine wp_region_dag (by kernel_rfl) ?_
      intro W5 hk
      have hs := hk
      have v0 := v0.below hs
      have hv := hv.below hs
      have v1 := v1.below hs
      have hB := hB.trans (hs.mono hB.size)
      clear hs hk
      refine dagV (fun _ => trivial) 16 ?hn (fun X => ⟨#[.slice (some ad) len cap, .agg #[.int .u8 (e0 : Int), .int .u8 (e1 : Int), .int .u8 (e2 : Int)], undef, .pointer (some ⟨b0, 0, none⟩), .bool false, .bool true, .slice (some ⟨g, 0, none⟩) 4 c, .pointer (some ⟨b1, 0, none⟩), .bool true, X 13, X 15, undef, undef, undef, undef, undef, undef, undef, undef, undef, undef, .bool true, .slice (some ad) len cap, .slice (some ad) len cap, .int .i64 (len : Int), .int .i64 16, .slice (some ad) 16 cap, .slice (some ⟨g, 0, none⟩) 4 c, X3_ 10, X3_ 0, X3_ 1, X3_ 2, X3_ 3, X3_ 4, X3_ 5, X3_ 6, X3_ 7, X3_ 8, X3_ 9, .agg #[.int .i64 pi, .int .i64 pj, .int .i64 pk, .int .i64 pd], X3_ 12, X 10, X 0, X 1, X 2, X 3, X 4, X 5, X 6, X 7, X 8, X 9, X 11, X 12, undef, undef, undef, undef, undef, undef, undef, undef, undef, undef, undef, undef, undef, undef, undef, undef, undef, undef, undef, undef, undef, undef, undef, undef, undef, undef, undef, undef, undef, undef, undef, undef, undef, undef, undef, undef, undef, undef, undef, undef, undef, undef, undef, undef, undef, undef, undef, undef, undef, undef, undef, undef, undef, undef, undef, undef, undef, undef, undef, undef, undef, undef, undef, undef, undef, undef, undef, undef, undef, undef, undef, undef, undef, undef, undef, undef, undef, undef, undef, undef, undef, undef, undef, undef, undef, undef, undef, undef, undef, undef, undef, undef, undef, undef, undef, undef, undef, undef, undef, undef, undef, undef, undef, undef, undef, undef, undef, undef, undef, undef, undef, undef, undef, undef, undef, undef, undef, undef, undef, undef, undef, undef, undef, undef, undef, undef, undef, undef, undef, undef, undef, undef, undef, undef, undef, undef, undef, undef, undef, undef, undef, undef, undef, undef, undef, undef, undef, undef, undef, undef, undef, undef, undef, undef, undef, undef, undef, undef, undef, undef, undef, undef, undef, undef, undef, undef, undef, undef, undef, undef, undef, undef, undef, undef, undef, undef, undef], []⟩) [(0, 0, 0), (0, 0, 0), (0, 0, 0), (0, 0, 0), (0, 0, 0), (0, 0, 0), (0, 0, 0), (0, 0, 0), (0, 0, 0), (0, 0, 0), (0, 0, 0), (0, 0, 0), (0, 0, 0), (1, 14, 11), (3, 13, 11), (0, 0, 0)] (fun i => ([[], [], [], [], [], [], [], [], [], [], [], [], [], [.int .i64 0, .int .i64 0, .int .i64 0, .int .i64 0], [], []] : List (List Value)).getD i []) [.val (.slice (some ⟨g, 0, none⟩) 4 c), .val (.pointer (some ⟨g, 3, none⟩)), .val (.agg #[.int .i64 x3, .int .i64 x4, .int .i64 x5]), .val (.slice (some ⟨g, 0, none⟩) 4 c), .val (.pointer (some ⟨g, 6, none⟩)), .val (.agg #[.int .i64 x6, .int .i64 x7, .int .i64 x8]), .val (.slice (some ⟨g, 0, none⟩) 4 c), .val (.pointer (some ⟨g, 0, none⟩)), .val (.agg #[.int .i64 x0, .int .i64 x1, .int .i64 x2]), .val (.tuple #[.agg #[.int .i64 pi, .int .i64 pj, .int .i64 pk, .int .i64 pd], .bool true]), .val (.tuple #[.agg #[.int .i64 pi, .int .i64 pj, .int .i64 pk, .int .i64 pd], .bool true]), .val (.agg #[.int .i64 pi, .int .i64 pj, .int .i64 pk, .int .i64 pd]), .val (.bool true), .none, .none, .val (.bool true)] [[], [0], [1], [], [3], [4], [], [6], [7], [2, 5, 8], [9], [10], [10], [], [11, 13], [12]] [0, 1, 2, 3, 4, 5, 6, 7, 8, 9, 10, 11, 12, 15] [13] [14] [] (fun i => ([0, 0, 0, 0, 0, 0, 0, 0, 0, 0, 0, 0, 0, 39, 0, 0] : List TypeId).getD i 0) W5 (by kernel_rfl) (by kernel_rfl) (by kernel_rfl) (by kernel_rfl) (by kernel_rfl) ?dist ?olds ?op ?al ?st ?into ?fin (fun _ => undef) _ _ (by kernel_rfl) (of_decide_eq_true (by kernel_rfl)) (of_decide_eq_true (by kernel_rfl))
      case hn => rfl
      case dist => intro i hi j hj; simp at hi hj; try omega
      case olds => exact nofun
      case op =>
        repeat' first | exact Each.nil | refine Each.cons ?_ ?_
        all_goals intro X w7 H hb hD h
        · refine tv rfl (by rfl) ?_ (by exact h _ w7 rfl (Below.refl _ _))
          go_simp <;> first | rfl | (simp only [IntWalk.i64_left]; rfl) | (simp only [IntWalk.i64_left, *]; done) | (simp only [IntWalk.i64_left, *]; rfl)
        · have e0_ : X 0 = _ := hD 0 (by decide) rfl
          refine tv rfl (by simp only [e0_]; rfl) ?_ (by exact h _ w7 rfl (Below.refl _ _))
          simp only [e0_]; go_simp <;> first | rfl | (simp only [IntWalk.i64_left]; rfl) | (simp only [IntWalk.i64_left, *]; done) | (simp only [IntWalk.i64_left, *]; rfl)
        · have e1_ : X 1 = _ := hD 1 (by decide) rfl
          have hv := hv.below (show Keep [] _ _ from hb).nil
          have c0_ := hv.at 3 rfl
          have c1_ := hv.at 4 rfl
          have c2_ := hv.at 5 rfl
          refine tv rfl (by simp only [e1_]; rfl) ?_ (by exact h _ w7 rfl (Below.refl _ _))
          simp only [e1_]; go_simp <;> first | rfl | (simp only [IntWalk.i64_left]; rfl) | (simp only [IntWalk.i64_left, *]; done) | (simp only [IntWalk.i64_left, *]; rfl)
        · refine tv rfl (by rfl) ?_ (by exact h _ w7 rfl (Below.refl _ _))
          go_simp <;> first | rfl | (simp only [IntWalk.i64_left]; rfl) | (simp only [IntWalk.i64_left, *]; done) | (simp only [IntWalk.i64_left, *]; rfl)
        · have e3_ : X 3 = _ := hD 3 (by decide) rfl
          refine tv rfl (by simp only [e3_]; rfl) ?_ (by exact h _ w7 rfl (Below.refl _ _))
          simp only [e3_]; go_simp <;> first | rfl | (simp only [IntWalk.i64_left]; rfl) | (simp only [IntWalk.i64_left, *]; done) | (simp only [IntWalk.i64_left, *]; rfl)
        · have e4_ : X 4 = _ := hD 4 (by decide) rfl
          have hv := hv.below (show Keep [] _ _ from hb).nil
          have c0_ := hv.at 6 rfl
          have c1_ := hv.at 7 rfl
          have c2_ := hv.at 8 rfl
          refine tv rfl (by simp only [e4_]; rfl) ?_ (by exact h _ w7 rfl (Below.refl _ _))
          simp only [e4_]; go_simp <;> first | rfl | (simp only [IntWalk.i64_left]; rfl) | (simp only [IntWalk.i64_left, *]; done) | (simp only [IntWalk.i64_left, *]; rfl)
        · refine tv rfl (by rfl) ?_ (by exact h _ w7 rfl (Below.refl _ _))
          go_simp <;> first | rfl | (simp only [IntWalk.i64_left]; rfl) | (simp only [IntWalk.i64_left, *]; done) | (simp only [IntWalk.i64_left, *]; rfl)
        · have e6_ : X 6 = _ := hD 6 (by decide) rfl
          refine tv rfl (by simp only [e6_]; rfl) ?_ (by exact h _ w7 rfl (Below.refl _ _))
          simp only [e6_]; go_simp <;> first | rfl | (simp only [IntWalk.i64_left]; rfl) | (simp only [IntWalk.i64_left, *]; done) | (simp only [IntWalk.i64_left, *]; rfl)
        · have e7_ : X 7 = _ := hD 7 (by decide) rfl
          have hv := hv.below (show Keep [] _ _ from hb).nil
          have c0_ := hv.at 0 rfl
          have c1_ := hv.at 1 rfl
          have c2_ := hv.at 2 rfl
          refine tv rfl (by simp only [e7_]; rfl) ?_ (by exact h _ w7 rfl (Below.refl _ _))
          simp only [e7_]; go_simp <;> first | rfl | (simp only [IntWalk.i64_left]; rfl) | (simp only [IntWalk.i64_left, *]; done) | (simp only [IntWalk.i64_left, *]; rfl)
        · have e2_ : X 2 = _ := hD 2 (by decide) rfl
          have e5_ : X 5 = _ := hD 5 (by decide) rfl
          have e8_ : X 8 = _ := hD 8 (by decide) rfl
          refine wpOp_call (i := 9) (f := 39) (args := #[.agg #[.int .i64 x3, .int .i64 x4, .int .i64 x5], .agg #[.int .i64 x6, .int .i64 x7, .int .i64 x8], .agg #[.int .i64 x0, .int .i64 x1, .int .i64 x2]]) 51 rfl rfl (by simp only [e2_, e5_, e8_]; rfl) (by simp only [e2_, e5_, e8_]; go_simp) ?_
          refine (cT2.out _).mono ?_
          rintro e w8 ⟨rfl, hk⟩
          exact ⟨_, rfl, h _ w8 rfl hk⟩
        · have e9_ : X 9 = _ := hD 9 (by decide) rfl
          refine tv rfl (by simp only [e9_]; rfl) ?_ (by exact h _ w7 rfl (Below.refl _ _))
          simp only [e9_]; go_simp <;> first | rfl | (simp only [IntWalk.i64_left]; rfl) | (simp only [IntWalk.i64_left, *]; done) | (simp only [IntWalk.i64_left, *]; rfl)
        · have e10_ : X 10 = _ := hD 10 (by decide) rfl
          refine tv rfl (by simp only [e10_]; rfl) ?_ (by exact h _ w7 rfl (Below.refl _ _))
          simp only [e10_]; go_simp <;> first | rfl | (simp only [IntWalk.i64_left]; rfl) | (simp only [IntWalk.i64_left, *]; done) | (simp only [IntWalk.i64_left, *]; rfl)
        · have e10_ : X 10 = _ := hD 10 (by decide) rfl
          refine tv rfl (by simp only [e10_]; rfl) ?_ (by exact h _ w7 rfl (Below.refl _ _))
          simp only [e10_]; go_simp <;> first | rfl | (simp only [IntWalk.i64_left]; rfl) | (simp only [IntWalk.i64_left, *]; done) | (simp only [IntWalk.i64_left, *]; rfl)
        · have e12_ : X 12 = _ := hD 12 (by decide) rfl
          refine tv rfl (by simp only [e12_]; rfl) ?_ (by exact h _ w7 rfl (Below.refl _ _))
          simp only [e12_]; go_simp <;> first | rfl | (simp only [IntWalk.i64_left]; rfl) | (simp only [IntWalk.i64_left, *]; done) | (simp only [IntWalk.i64_left, *]; rfl)
      case al =>
        repeat' first | exact Each.nil | refine Each.cons ?_ ?_
        all_goals exact fun X w7 H h => wpOp_run rfl (by go_simp; exact h)
      case st =>
        repeat' first | exact Each.nil | refine Each.cons ?_ ?_
        all_goals intro X w7 H b hX hC hG h
        · replace hX : X 13 = .pointer (some ⟨b, 0, none⟩) := hX
          have e : X 11 = _ := hG
          have c0_ := hC.at 0 rfl
          have z0_ := hC.fr 0 (by decide)
          have c1_ := hC.at 1 rfl
          have z1_ := hC.fr 1 (by decide)
          have c2_ := hC.at 2 rfl
          have z2_ := hC.fr 2 (by decide)
          have c3_ := hC.at 3 rfl
          have z3_ := hC.fr 3 (by decide)
          refine wpOp_run rfl ?_
          have h := h (by show _ = (vc (X 11)).length; rw [e]; rfl)
          simp only [hX] at h ⊢
          replace h : H _ (putC b w7 0 (vc (X 11))) := h
          simp only [e] at h ⊢
          go_simp
          exact h
      case into => exact Each.nil
      case fin =>
        intro X4_ W6 hI
        have hE : Keep [] W5 W6 := hI.keep
        have e11_ : X4_ 11 = _ := hI.fact 11 (by decide) rfl rfl
        have e15_ : X4_ 15 = _ := hI.fact 15 (by decide) rfl rfl
        obtain ⟨b2, e13_, lob2, v2⟩ := hI.box 13 (by decide) rfl (by decide)
        replace v2 : Var W6 b2 (vc (X4_ 11)) := v2
        rw [e11_] at v2
        replace v2 : Var W6 b2 [.int .i64 pi, .int .i64 pj, .int .i64 pk, .int .i64 pd] := v2
        replace lob2 : w.heap.size ≤ b2 := Nat.le_trans hB.size lob2
        have v0 := v0.below hE.nil
        have hv := hv.below hE.nil
        have v1 := v1.below hE.nil
        have hB := hB.trans (hE.nil.mono hB.size)
        simp only [e11_, e15_, e13_]
        clear e11_ e15_ e13_ hI hE
        go_wp2_with fail
        refine wp_region_dag (by kernel_rfl) ?_
        intro W7 hk
        have hs := hk
        have v0 := v0.below hs
        have hv := hv.below hs
        have v1 := v1.below hs
        have v2 := v2.below hs
        have hB := hB.trans (hs.mono hB.size)
        clear hs hk
        refine dagV (fun _ => trivial) 16 ?hn (fun X => ⟨#[.slice (some ad) len cap, .agg #[.int .u8 (e0 : Int), .int .u8 (e1 : Int), .int .u8 (e2 : Int)], undef, .pointer (some ⟨b0, 0, none⟩), .bool false, .bool true, .slice (some ⟨g, 0, none⟩) 4 c, .pointer (some ⟨b1, 0, none⟩), .bool true, .pointer (some ⟨b2, 0, none⟩), .bool true, X 13, X 15, undef, undef, undef, undef, undef, undef, undef, undef, .bool true, .slice (some ad) len cap, .slice (some ad) len cap, .int .i64 (len : Int), .int .i64 16, .slice (some ad) 16 cap, .slice (some ⟨g, 0, none⟩) 4 c, X3_ 10, X3_ 0, X3_ 1, X3_ 2, X3_ 3, X3_ 4, X3_ 5, X3_ 6, X3_ 7, X3_ 8, X3_ 9, .agg #[.int .i64 pi, .int .i64 pj, .int .i64 pk, .int .i64 pd], X3_ 12, X4_ 10, X4_ 0, X4_ 1, X4_ 2, X4_ 3, X4_ 4, X4_ 5, X4_ 6, X4_ 7, X4_ 8, X4_ 9, .agg #[.int .i64 pi, .int .i64 pj, .int .i64 pk, .int .i64 pd], X4_ 12, X 10, X 0, X 1, X 2, X 3, X 4, X 5, X 6, X 7, X 8, X 9, X 11, X 12, undef, undef, undef, undef, undef, undef, undef, undef, undef, undef, undef, undef, undef, undef, undef, undef, undef, undef, undef, undef, undef, undef, undef, undef, undef, undef, undef, undef, undef, undef, undef, undef, undef, undef, undef, undef, undef, undef, undef, undef, undef, undef, undef, undef, undef, undef, undef, undef, undef, undef, undef, undef, undef, undef, undef, undef, undef, undef, undef, undef, undef, undef, undef, undef, undef, undef, undef, undef, undef, undef, undef, undef, undef, undef, undef, undef, undef, undef, undef, undef, undef, undef, undef, undef, undef, undef, undef, undef, undef, undef, undef, undef, undef, undef, undef, undef, undef, undef, undef, undef, undef, undef, undef, undef, undef, undef, undef, undef, undef, undef, undef, undef, undef, undef, undef, undef, undef, undef, undef, undef, undef, undef, undef, undef, undef, undef, undef, undef, undef, undef, undef, undef, undef, undef, undef, undef, undef, undef, undef, undef, undef, undef, undef, undef, undef, undef, undef, undef, undef, undef, undef, undef, undef, undef, undef, undef, undef, undef, undef, undef, undef, undef, undef, undef], []⟩) [(0, 0, 0), (0, 0, 0), (0, 0, 0), (0, 0, 0), (0, 0, 0), (0, 0, 0), (0, 0, 0), (0, 0, 0), (0, 0, 0), (0, 0, 0), (0, 0, 0), (0, 0, 0), (0, 0, 0), (1, 14, 11), (3, 13, 11), (0, 0, 0)] (fun i => ([[], [], [], [], [], [], [], [], [], [], [], [], [], [.int .i64 0, .int .i64 0, .int .i64 0, .int .i64 0], [], []] : List (List Value)).getD i []) [.val (.slice (some ⟨g, 0, none⟩) 4 c), .val (.pointer (some ⟨g, 0, none⟩)), .val (.agg #[.int .i64 x0, .int .i64 x1, .int .i64 x2]), .val (.slice (some ⟨g, 0, none⟩) 4 c), .val (.pointer (some ⟨g, 6, none⟩)), .val (.agg #[.int .i64 x6, .int .i64 x7, .int .i64 x8]), .val (.slice (some ⟨g, 0, none⟩) 4 c), .val (.pointer (some ⟨g, 3, none⟩)), .val (.agg #[.int .i64 x3, .int .i64 x4, .int .i64 x5]), .val (.tuple #[.agg #[.int .i64 ni, .int .i64 nj, .int .i64 nk, .int .i64 nd], .bool true]), .val (.tuple #[.agg #[.int .i64 ni, .int .i64 nj, .int .i64 nk, .int .i64 nd], .bool true]), .val (.agg #[.int .i64 ni, .int .i64 nj, .int .i64 nk, .int .i64 nd]), .val (.bool true), .none, .none, .val (.bool true)] [[], [0], [1], [], [3], [4], [], [6], [7], [2, 5, 8], [9], [10], [10], [], [11, 13], [12]] [0, 1, 2, 3, 4, 5, 6, 7, 8, 9, 10, 11, 12, 15] [13] [14] [] (fun i => ([0, 0, 0, 0, 0, 0, 0, 0, 0, 0, 0, 0, 0, 39, 0, 0] : List TypeId).getD i 0) W7 (by kernel_rfl) (by kernel_rfl) (by kernel_rfl) (by kernel_rfl) (by kernel_rfl) ?dist ?olds ?op ?al ?st ?into ?fin (fun _ => undef) _ _ (by kernel_rfl) (of_decide_eq_true (by kernel_rfl)) (of_decide_eq_true (by kernel_rfl))
        case hn => rfl
        case dist => intro i hi j hj; simp at hi hj; try omega
        case olds => exact nofun
        case op =>
          repeat' first | exact Each.nil | refine Each.cons ?_ ?_
          all_goals intro X w7 H hb hD h
          · refine tv rfl (by rfl) ?_ (by exact h _ w7 rfl (Below.refl _ _))
            go_simp <;> first | rfl | (simp only [IntWalk.i64_left]; rfl) | (simp only [IntWalk.i64_left, *]; done) | (simp only [IntWalk.i64_left, *]; rfl)
          · have e0_ : X 0 = _ := hD 0 (by decide) rfl
            refine tv rfl (by simp only [e0_]; rfl) ?_ (by exact h _ w7 rfl (Below.refl _ _))
            simp only [e0_]; go_simp <;> first | rfl | (simp only [IntWalk.i64_left]; rfl) | (simp only [IntWalk.i64_left, *]; done) | (simp only [IntWalk.i64_left, *]; rfl)
          · have e1_ : X 1 = _ := hD 1 (by decide) rfl
            have hv := hv.below (show Keep [] _ _ from hb).nil
            have c0_ := hv.at 0 rfl
            have c1_ := hv.at 1 rfl
            have c2_ := hv.at 2 rfl
            refine tv rfl (by simp only [e1_]; rfl) ?_ (by exact h _ w7 rfl (Below.refl _ _))
            simp only [e1_]; go_simp <;> first | rfl | (simp only [IntWalk.i64_left]; rfl) | (simp only [IntWalk.i64_left, *]; done) | (simp only [IntWalk.i64_left, *]; rfl)
          · refine tv rfl (by rfl) ?_ (by exact h _ w7 rfl (Below.refl _ _))
            go_simp <;> first | rfl | (simp only [IntWalk.i64_left]; rfl) | (simp only [IntWalk.i64_left, *]; done) | (simp only [IntWalk.i64_left, *]; rfl)
          · have e3_ : X 3 = _ := hD 3 (by decide) rfl
            refine tv rfl (by simp only [e3_]; rfl) ?_ (by exact h _ w7 rfl (Below.refl _ _))
            simp only [e3_]; go_simp <;> first | rfl | (simp only [IntWalk.i64_left]; rfl) | (simp only [IntWalk.i64_left, *]; done) | (simp only [IntWalk.i64_left, *]; rfl)
          · have e4_ : X 4 = _ := hD 4 (by decide) rfl
            have hv := hv.below (show Keep [] _ _ from hb).nil
            have c0_ := hv.at 6 rfl
            have c1_ := hv.at 7 rfl
            have c2_ := hv.at 8 rfl
            refine tv rfl (by simp only [e4_]; rfl) ?_ (by exact h _ w7 rfl (Below.refl _ _))
            simp only [e4_]; go_simp <;> first | rfl | (simp only [IntWalk.i64_left]; rfl) | (simp only [IntWalk.i64_left, *]; done) | (simp only [IntWalk.i64_left, *]; rfl)
          · refine tv rfl (by rfl) ?_ (by exact h _ w7 rfl (Below.refl _ _))
            go_simp <;> first | rfl | (simp only [IntWalk.i64_left]; rfl) | (simp only [IntWalk.i64_left, *]; done) | (simp only [IntWalk.i64_left, *]; rfl)
          · have e6_ : X 6 = _ := hD 6 (by decide) rfl
            refine tv rfl (by simp only [e6_]; rfl) ?_ (by exact h _ w7 rfl (Below.refl _ _))
            simp only [e6_]; go_simp <;> first | rfl | (simp only [IntWalk.i64_left]; rfl) | (simp only [IntWalk.i64_left, *]; done) | (simp only [IntWalk.i64_left, *]; rfl)
          · have e7_ : X 7 = _ := hD 7 (by decide) rfl
            have hv := hv.below (show Keep [] _ _ from hb).nil
            have c0_ := hv.at 3 rfl
            have c1_ := hv.at 4 rfl
            have c2_ := hv.at 5 rfl
            refine tv rfl (by simp only [e7_]; rfl) ?_ (by exact h _ w7 rfl (Below.refl _ _))
            simp only [e7_]; go_simp <;> first | rfl | (simp only [IntWalk.i64_left]; rfl) | (simp only [IntWalk.i64_left, *]; done) | (simp only [IntWalk.i64_left, *]; rfl)
          · have e2_ : X 2 = _ := hD 2 (by decide) rfl
            have e5_ : X 5 = _ := hD 5 (by decide) rfl
            have e8_ : X 8 = _ := hD 8 (by decide) rfl
            refine wpOp_call (i := 9) (f := 39) (args := #[.agg #[.int .i64 x0, .int .i64 x1, .int .i64 x2], .agg #[.int .i64 x6, .int .i64 x7, .int .i64 x8], .agg #[.int .i64 x3, .int .i64 x4, .int .i64 x5]]) 64 rfl rfl (by simp only [e2_, e5_, e8_]; rfl) (by simp only [e2_, e5_, e8_]; go_simp) ?_
            refine (cT3.out _).mono ?_
            rintro e w8 ⟨rfl, hk⟩
            exact ⟨_, rfl, h _ w8 rfl hk⟩
          · have e9_ : X 9 = _ := hD 9 (by decide) rfl
            refine tv rfl (by simp only [e9_]; rfl) ?_ (by exact h _ w7 rfl (Below.refl _ _))
            simp only [e9_]; go_simp <;> first | rfl | (simp only [IntWalk.i64_left]; rfl) | (simp only [IntWalk.i64_left, *]; done) | (simp only [IntWalk.i64_left, *]; rfl)
          · have e10_ : X 10 = _ := hD 10 (by decide) rfl
            refine tv rfl (by simp only [e10_]; rfl) ?_ (by exact h _ w7 rfl (Below.refl _ _))
            simp only [e10_]; go_simp <;> first | rfl | (simp only [IntWalk.i64_left]; rfl) | (simp only [IntWalk.i64_left, *]; done) | (simp only [IntWalk.i64_left, *]; rfl)
          · have e10_ : X 10 = _ := hD 10 (by decide) rfl
            refine tv rfl (by simp only [e10_]; rfl) ?_ (by exact h _ w7 rfl (Below.refl _ _))
            simp only [e10_]; go_simp <;> first | rfl | (simp only [IntWalk.i64_left]; rfl) | (simp only [IntWalk.i64_left, *]; done) | (simp only [IntWalk.i64_left, *]; rfl)
          · have e12_ : X 12 = _ := hD 12 (by decide) rfl
            refine tv rfl (by simp only [e12_]; rfl) ?_ (by exact h _ w7 rfl (Below.refl _ _))
            simp only [e12_]; go_simp <;> first | rfl | (simp only [IntWalk.i64_left]; rfl) | (simp only [IntWalk.i64_left, *]; done) | (simp only [IntWalk.i64_left, *]; rfl)
        case al =>
          repeat' first | exact Each.nil | refine Each.cons ?_ ?_
          all_goals exact fun X w7 H h => wpOp_run rfl (by go_simp; exact h)
        case st =>
          repeat' first | exact Each.nil | refine Each.cons ?_ ?_
          all_goals intro X w7 H b hX hC hG h
          · replace hX : X 13 = .pointer (some ⟨b, 0, none⟩) := hX
            have e : X 11 = _ := hG
            have c0_ := hC.at 0 rfl
            have z0_ := hC.fr 0 (by decide)
            have c1_ := hC.at 1 rfl
            have z1_ := hC.fr 1 (by decide)
            have c2_ := hC.at 2 rfl
            have z2_ := hC.fr 2 (by decide)
            have c3_ := hC.at 3 rfl
            have z3_ := hC.fr 3 (by decide)
            refine wpOp_run rfl ?_
            have h := h (by show _ = (vc (X 11)).length; rw [e]; rfl)
            simp only [hX] at h ⊢
            replace h : H _ (putC b w7 0 (vc (X 11))) := h
            simp only [e] at h ⊢
            go_simp
            exact h
        case into => exact Each.nil
        case fin =>
          intro X5_ W8 hI
          have hE : Keep [] W7 W8 := hI.keep
          have e11_ : X5_ 11 = _ := hI.fact 11 (by decide) rfl rfl
          have e15_ : X5_ 15 = _ := hI.fact 15 (by decide) rfl rfl
          obtain ⟨b3, e13_, lob3, v3⟩ := hI.box 13 (by decide) rfl (by decide)
          replace v3 : Var W8 b3 (vc (X5_ 11)) := v3
          rw [e11_] at v3
          replace v3 : Var W8 b3 [.int .i64 ni, .int .i64 nj, .int .i64 nk, .int .i64 nd] := v3
          replace lob3 : w.heap.size ≤ b3 := Nat.le_trans hB.size lob3
          have v0 := v0.below hE.nil
          have hv := hv.below hE.nil
          have v1 := v1.below hE.nil
          have v2 := v2.below hE.nil
          have hB := hB.trans (hE.nil.mono hB.size)
          simp only [e11_, e15_, e13_]
          clear e11_ e15_ e13_ hI hE
          go_wp2_with fail
          refine wp_region_dag (by kernel_rfl) ?_
          intro W9 hk
          have hs := hk
          have v0 := v0.below hs
          have hv := hv.below hs
          have v1 := v1.below hs
          have v2 := v2.below hs
          have v3 := v3.below hs
          have hB := hB.trans (hs.mono hB.size)
          clear hs hk
          refine dagV (fun _ => trivial) 18 ?hn (fun X => ⟨#[.slice (some ad) len cap, .agg #[.int .u8 (e0 : Int), .int .u8 (e1 : Int), .int .u8 (e2 : Int)], undef, .pointer (some ⟨b0, 0, none⟩), .bool false, .bool true, .slice (some ⟨g, 0, none⟩) 4 c, .pointer (some ⟨b1, 0, none⟩), .bool true, .pointer (some ⟨b2, 0, none⟩), .bool true, .pointer (some ⟨b3, 0, none⟩), .bool true, X 17, undef, undef, undef, undef, undef, undef, undef, .bool true, .slice (some ad) len cap, .slice (some ad) len cap, .int .i64 (len : Int), .int .i64 16, .slice (some ad) 16 cap, .slice (some ⟨g, 0, none⟩) 4 c, X3_ 10, X3_ 0, X3_ 1, X3_ 2, X3_ 3, X3_ 4, X3_ 5, X3_ 6, X3_ 7, X3_ 8, X3_ 9, .agg #[.int .i64 pi, .int .i64 pj, .int .i64 pk, .int .i64 pd], X3_ 12, X4_ 10, X4_ 0, X4_ 1, X4_ 2, X4_ 3, X4_ 4, X4_ 5, X4_ 6, X4_ 7, X4_ 8, X4_ 9, .agg #[.int .i64 pi, .int .i64 pj, .int .i64 pk, .int .i64 pd], X4_ 12, X5_ 10, X5_ 0, X5_ 1, X5_ 2, X5_ 3, X5_ 4, X5_ 5, X5_ 6, X5_ 7, X5_ 8, X5_ 9, .agg #[.int .i64 ni, .int .i64 nj, .int .i64 nk, .int .i64 nd], X5_ 12, X 0, X 1, X 2, X 3, X 4, X 5, X 6, X 7, X 8, X 9, X 10, X 11, X 12, X 13, X 14, X 15, X 16, undef, undef, undef, undef, undef, undef, undef, undef, undef, undef, undef, undef, undef, undef, undef, undef, undef, undef, undef, undef, undef, undef, undef, undef, undef, undef, undef, undef, undef, undef, undef, undef, undef, undef, undef, undef, undef, undef, undef, undef, undef, undef, undef, undef, undef, undef, undef, undef, undef, undef, undef, undef, undef, undef, undef, undef, undef, undef, undef, undef, undef, undef, undef, undef, undef, undef, undef, undef, undef, undef, undef, undef, undef, undef, undef, undef, undef, undef, undef, undef, undef, undef, undef, undef, undef, undef, undef, undef, undef, undef, undef, undef, undef, undef, undef, undef, undef, undef, undef, undef, undef, undef, undef, undef, undef, undef, undef, undef, undef, undef, undef, undef, undef, undef, undef, undef, undef, undef, undef, undef, undef, undef, undef, undef, undef, undef, undef, undef, undef, undef, undef, undef, undef, undef, undef, undef, undef, undef, undef, undef, undef, undef, undef, undef, undef, undef, undef], []⟩) [(0, 0, 0), (0, 0, 0), (0, 0, 0), (0, 0, 0), (0, 0, 0), (0, 0, 0), (0, 0, 0), (0, 0, 0), (0, 0, 0), (0, 0, 0), (0, 0, 0), (0, 0, 0), (0, 0, 0), (0, 0, 0), (0, 0, 0), (0, 0, 0), (0, 0, 0), (0, 0, 0)] (fun _ => []) [.val (.slice (some ⟨g, 0, none⟩) 4 c), .val (.pointer (some ⟨g, 3, none⟩)), .val (.agg #[.int .i64 x3, .int .i64 x4, .int .i64 x5]), .val (.slice (some ⟨g, 0, none⟩) 4 c), .val (.pointer (some ⟨g, 0, none⟩)), .val (.agg #[.int .i64 x0, .int .i64 x1, .int .i64 x2]), .val (.agg #[.int .i64 (wrap64 (x3 - x0)), .int .i64 (wrap64 (x4 - x1)), .int .i64 (wrap64 (x5 - x2))]), .val (.slice (some ⟨g, 0, none⟩) 4 c), .val (.pointer (some ⟨g, 6, none⟩)), .val (.agg #[.int .i64 x6, .int .i64 x7, .int .i64 x8]), .val (.slice (some ⟨g, 0, none⟩) 4 c), .val (.pointer (some ⟨g, 0, none⟩)), .val (.agg #[.int .i64 x0, .int .i64 x1, .int .i64 x2]), .val (.agg #[.int .i64 (wrap64 (x6 - x0)), .int .i64 (wrap64 (x7 - x1)), .int .i64 (wrap64 (x8 - x2))]), .val (.agg #[.int .i64 c1, .int .i64 c2, .int .i64 c3]), .val (.agg #[.int .i64 0, .int .i64 0, .int .i64 0]), .val (.bool false), .val (.bool false)] [[], [0], [1], [], [3], [4], [2, 5], [], [7], [8], [], [10], [11], [9, 12], [6, 13], [], [14, 15], [16]] [0, 1, 2, 3, 4, 5, 6, 7, 8, 9, 10, 11, 12, 13, 14, 15, 16, 17] [] [] [] (fun _ => 0) W9 (by kernel_rfl) (by kernel_rfl) (by kernel_rfl) (by kernel_rfl) (by kernel_rfl) ?dist ?olds ?op ?al ?st ?into ?fin (fun _ => undef) _ _ (by kernel_rfl) (of_decide_eq_true (by kernel_rfl)) (of_decide_eq_true (by kernel_rfl))
          case hn => rfl
          case dist => intro i hi j hj; simp at hi hj; try omega
          case olds => exact nofun
          case op =>
            repeat' first | exact Each.nil | refine Each.cons ?_ ?_
            all_goals intro X w7 H hb hD h
            · refine tv rfl (by rfl) ?_ (by exact h _ w7 rfl (Below.refl _ _))
              go_simp <;> first | rfl | (simp only [IntWalk.i64_left]; rfl) | (simp only [IntWalk.i64_left, *]; done) | (simp only [IntWalk.i64_left, *]; rfl)
            · have e0_ : X 0 = _ := hD 0 (by decide) rfl
              refine tv rfl (by simp only [e0_]; rfl) ?_ (by exact h _ w7 rfl (Below.refl _ _))
              simp only [e0_]; go_simp <;> first | rfl | (simp only [IntWalk.i64_left]; rfl) | (simp only [IntWalk.i64_left, *]; done) | (simp only [IntWalk.i64_left, *]; rfl)
            · have e1_ : X 1 = _ := hD 1 (by decide) rfl
              have hv := hv.below (show Keep [] _ _ from hb).nil
              have c0_ := hv.at 3 rfl
              have c1_ := hv.at 4 rfl
              have c2_ := hv.at 5 rfl
              refine tv rfl (by simp only [e1_]; rfl) ?_ (by exact h _ w7 rfl (Below.refl _ _))
              simp only [e1_]; go_simp <;> first | rfl | (simp only [IntWalk.i64_left]; rfl) | (simp only [IntWalk.i64_left, *]; done) | (simp only [IntWalk.i64_left, *]; rfl)
            · refine tv rfl (by rfl) ?_ (by exact h _ w7 rfl (Below.refl _ _))
              go_simp <;> first | rfl | (simp only [IntWalk.i64_left]; rfl) | (simp only [IntWalk.i64_left, *]; done) | (simp only [IntWalk.i64_left, *]; rfl)
            · have e3_ : X 3 = _ := hD 3 (by decide) rfl
              refine tv rfl (by simp only [e3_]; rfl) ?_ (by exact h _ w7 rfl (Below.refl _ _))
              simp only [e3_]; go_simp <;> first | rfl | (simp only [IntWalk.i64_left]; rfl) | (simp only [IntWalk.i64_left, *]; done) | (simp only [IntWalk.i64_left, *]; rfl)
            · have e4_ : X 4 = _ := hD 4 (by decide) rfl
              have hv := hv.below (show Keep [] _ _ from hb).nil
              have c0_ := hv.at 0 rfl
              have c1_ := hv.at 1 rfl
              have c2_ := hv.at 2 rfl
              refine tv rfl (by simp only [e4_]; rfl) ?_ (by exact h _ w7 rfl (Below.refl _ _))
              simp only [e4_]; go_simp <;> first | rfl | (simp only [IntWalk.i64_left]; rfl) | (simp only [IntWalk.i64_left, *]; done) | (simp only [IntWalk.i64_left, *]; rfl)
            · have e2_ : X 2 = _ := hD 2 (by decide) rfl
              have e5_ : X 5 = _ := hD 5 (by decide) rfl
              refine wpOp_call (i := 6) (f := 17) (args := #[.agg #[.int .i64 x3, .int .i64 x4, .int .i64 x5], .agg #[.int .i64 x0, .int .i64 x1, .int .i64 x2]]) 73 rfl rfl (by simp only [e2_, e5_]; rfl) (by simp only [e2_, e5_]; go_simp) ?_
              refine (sub_p x3 x4 x5 x0 x1 x2 _).mono ?_
              rintro e w8 ⟨rfl, hk⟩
              exact ⟨_, rfl, h _ w8 rfl hk⟩
            · refine tv rfl (by rfl) ?_ (by exact h _ w7 rfl (Below.refl _ _))
              go_simp <;> first | rfl | (simp only [IntWalk.i64_left]; rfl) | (simp only [IntWalk.i64_left, *]; done) | (simp only [IntWalk.i64_left, *]; rfl)
            · have e7_ : X 7 = _ := hD 7 (by decide) rfl
              refine tv rfl (by simp only [e7_]; rfl) ?_ (by exact h _ w7 rfl (Below.refl _ _))
              simp only [e7_]; go_simp <;> first | rfl | (simp only [IntWalk.i64_left]; rfl) | (simp only [IntWalk.i64_left, *]; done) | (simp only [IntWalk.i64_left, *]; rfl)
            · have e8_ : X 8 = _ := hD 8 (by decide) rfl
              have hv := hv.below (show Keep [] _ _ from hb).nil
              have c0_ := hv.at 6 rfl
              have c1_ := hv.at 7 rfl
              have c2_ := hv.at 8 rfl
              refine tv rfl (by simp only [e8_]; rfl) ?_ (by exact h _ w7 rfl (Below.refl _ _))
              simp only [e8_]; go_simp <;> first | rfl | (simp only [IntWalk.i64_left]; rfl) | (simp only [IntWalk.i64_left, *]; done) | (simp only [IntWalk.i64_left, *]; rfl)
            · refine tv rfl (by rfl) ?_ (by exact h _ w7 rfl (Below.refl _ _))
              go_simp <;> first | rfl | (simp only [IntWalk.i64_left]; rfl) | (simp only [IntWalk.i64_left, *]; done) | (simp only [IntWalk.i64_left, *]; rfl)
            · have e10_ : X 10 = _ := hD 10 (by decide) rfl
              refine tv rfl (by simp only [e10_]; rfl) ?_ (by exact h _ w7 rfl (Below.refl _ _))
              simp only [e10_]; go_simp <;> first | rfl | (simp only [IntWalk.i64_left]; rfl) | (simp only [IntWalk.i64_left, *]; done) | (simp only [IntWalk.i64_left, *]; rfl)
            · have e11_ : X 11 = _ := hD 11 (by decide) rfl
              have hv := hv.below (show Keep [] _ _ from hb).nil
              have c0_ := hv.at 0 rfl
              have c1_ := hv.at 1 rfl
              have c2_ := hv.at 2 rfl
              refine tv rfl (by simp only [e11_]; rfl) ?_ (by exact h _ w7 rfl (Below.refl _ _))
              simp only [e11_]; go_simp <;> first | rfl | (simp only [IntWalk.i64_left]; rfl) | (simp only [IntWalk.i64_left, *]; done) | (simp only [IntWalk.i64_left, *]; rfl)
            · have e9_ : X 9 = _ := hD 9 (by decide) rfl
              have e12_ : X 12 = _ := hD 12 (by decide) rfl
              refine wpOp_call (i := 13) (f := 17) (args := #[.agg #[.int .i64 x6, .int .i64 x7, .int .i64 x8], .agg #[.int .i64 x0, .int .i64 x1, .int .i64 x2]]) 80 rfl rfl (by simp only [e9_, e12_]; rfl) (by simp only [e9_, e12_]; go_simp) ?_
              refine (sub_p x6 x7 x8 x0 x1 x2 _).mono ?_
              rintro e w8 ⟨rfl, hk⟩
              exact ⟨_, rfl, h _ w8 rfl hk⟩
            · have e6_ : X 6 = _ := hD 6 (by decide) rfl
              have e13_ : X 13 = _ := hD 13 (by decide) rfl
              refine wpOp_call (i := 14) (f := 21) (args := #[.agg #[.int .i64 (wrap64 (x3 - x0)), .int .i64 (wrap64 (x4 - x1)), .int .i64 (wrap64 (x5 - x2))], .agg #[.int .i64 (wrap64 (x6 - x0)), .int .i64 (wrap64 (x7 - x1)), .int .i64 (wrap64 (x8 - x2))]]) 81 rfl rfl (by simp only [e6_, e13_]; rfl) (by simp only [e6_, e13_]; go_simp) ?_
              refine (cC.out _).mono ?_
              rintro e w8 ⟨rfl, hk⟩
              exact ⟨_, rfl, h _ w8 rfl hk⟩
            · refine tv rfl (by rfl) ?_ (by exact h _ w7 rfl (Below.refl _ _))
              go_simp <;> first | rfl | (simp only [IntWalk.i64_left]; rfl) | (simp only [IntWalk.i64_left, *]; done) | (simp only [IntWalk.i64_left, *]; rfl)
            · have e14_ : X 14 = _ := hD 14 (by decide) rfl
              have e15_ : X 15 = _ := hD 15 (by decide) rfl
              refine tv rfl (by simp only [e14_, e15_]; rfl) ?_ (by exact h _ w7 rfl (Below.refl _ _))
              simp only [e14_, e15_]; go_simp
              exact eqv3 (fun x => Result.ok (Next.value (Value.bool x)) w7) hne.out
            · have e16_ : X 16 = _ := hD 16 (by decide) rfl
              refine tv rfl (by simp only [e16_]; rfl) ?_ (by exact h _ w7 rfl (Below.refl _ _))
              simp only [e16_]; go_simp <;> first | rfl | (simp only [IntWalk.i64_left]; rfl) | (simp only [IntWalk.i64_left, *]; done) | (simp only [IntWalk.i64_left, *]; rfl)
          case al => exact Each.nil
          case st => exact Each.nil
          case into => exact Each.nil
          case fin =>
            intro X6_ W10 hI
            have hE : Keep [] W9 W10 := hI.keep
            have e17_ : X6_ 17 = _ := hI.fact 17 (by decide) rfl rfl
            have v0 := v0.below hE.nil
            have hv := hv.below hE.nil
            have v1 := v1.below hE.nil
            have v2 := v2.below hE.nil
            have v3 := v3.below hE.nil
            have hB := hB.trans (hE.nil.mono hB.size)
            simp only [e17_]
            clear e17_ hI hE
            go_wp2_with fail
            refine wp_region_dag (by kernel_rfl) ?_
            intro W11 hk
            have hs := hk
            have v0 := v0.below hs
            have hv := hv.below hs
            have v1 := v1.below hs
            have v2 := v2.below hs
            have v3 := v3.below hs
            have hB := hB.trans (hs.mono hB.size)
            clear hs hk
            refine dagV (fun _ => trivial) 39 ?hn (fun X => ⟨#[.slice (some ad) len cap, .agg #[.int .u8 (e0 : Int), .int .u8 (e1 : Int), .int .u8 (e2 : Int)], undef, .pointer (some ⟨b0, 0, none⟩), .bool false, .bool true, .slice (some ⟨g, 0, none⟩) 4 c, .pointer (some ⟨b1, 0, none⟩), .bool true, .pointer (some ⟨b2, 0, none⟩), .bool true, .pointer (some ⟨b3, 0, none⟩), .bool true, .bool false, undef, undef, undef, undef, undef, undef, undef, .bool true, .slice (some ad) len cap, .slice (some ad) len cap, .int .i64 (len : Int), .int .i64 16, .slice (some ad) 16 cap, .slice (some ⟨g, 0, none⟩) 4 c, X3_ 10, X3_ 0, X3_ 1, X3_ 2, X3_ 3, X3_ 4, X3_ 5, X3_ 6, X3_ 7, X3_ 8, X3_ 9, .agg #[.int .i64 pi, .int .i64 pj, .int .i64 pk, .int .i64 pd], X3_ 12, X4_ 10, X4_ 0, X4_ 1, X4_ 2, X4_ 3, X4_ 4, X4_ 5, X4_ 6, X4_ 7, X4_ 8, X4_ 9, .agg #[.int .i64 pi, .int .i64 pj, .int .i64 pk, .int .i64 pd], X4_ 12, X5_ 10, X5_ 0, X5_ 1, X5_ 2, X5_ 3, X5_ 4, X5_ 5, X5_ 6, X5_ 7, X5_ 8, X5_ 9, .agg #[.int .i64 ni, .int .i64 nj, .int .i64 nk, .int .i64 nd], X5_ 12, X6_ 0, X6_ 1, X6_ 2, X6_ 3, X6_ 4, X6_ 5, X6_ 6, X6_ 7, X6_ 8, X6_ 9, X6_ 10, X6_ 11, X6_ 12, X6_ 13, X6_ 14, X6_ 15, X6_ 16, .bool true, .bool false, .bool false, .bool false, .bool true, .bool true, .bool false, .bool false, .bool false, .bool true, .bool true, .bool false, .bool false, .bool false, undef, undef, undef, undef, undef, undef, X 0, X 1, X 2, X 3, X 4, X 5, X 6, X 7, X 8, X 9, X 10, X 11, X 12, X 13, X 14, X 15, X 16, X 17, X 18, X 19, X 20, X 21, X 22, X 23, X 24, X 25, X 26, X 27, X 28, X 29, X 30, X 31, X 32, X 33, X 34, X 35, X 36, X 37, X 38, undef, undef, undef, undef, undef, undef, undef, undef, undef, undef, undef, undef, undef, undef, undef, undef, undef, undef, undef, undef, undef, undef, undef, undef, undef, undef, undef, undef, undef, undef, undef, undef, undef, undef, undef, undef, undef, undef, undef, undef, undef, undef, undef, undef, undef, undef, undef, undef, undef, undef, undef, undef, undef, undef, undef, undef, undef, undef, undef, undef, undef, undef, undef, undef, undef, undef, undef, undef, undef, undef, undef, undef, undef, undef, undef, undef, undef, undef, undef, undef, undef, undef, undef, undef, undef, undef, undef, undef], []⟩) [(0, 0, 0), (0, 0, 0), (0, 0, 0), (0, 0, 0), (0, 0, 0), (0, 0, 0), (0, 0, 0), (0, 0, 0), (0, 0, 0), (0, 0, 0), (0, 0, 0), (0, 0, 0), (0, 0, 0), (0, 0, 0), (0, 0, 0), (0, 0, 0), (0, 0, 0), (0, 0, 0), (0, 0, 0), (0, 0, 0), (0, 0, 0), (0, 0, 0), (0, 0, 0), (0, 0, 0), (0, 0, 0), (0, 0, 0), (0, 0, 0), (0, 0, 0), (0, 0, 0), (0, 0, 0), (0, 0, 0), (0, 0, 0), (0, 0, 0), (0, 0, 0), (0, 0, 0), (0, 0, 0), (0, 0, 0), (0, 0, 0), (0, 0, 0)] (fun _ => []) [.val (.agg #[.int .i64 pi, .int .i64 pj, .int .i64 pk, .int .i64 pd]), .val (.agg #[.int .i64 pi, .int .i64 pj, .int .i64 pk, .int .i64 pd]), .val (.bool false), .val (.bool false), .val (.agg #[.int .i64 ni, .int .i64 nj, .int .i64 nk, .int .i64 nd]), .val (.agg #[.int .i64 pi, .int .i64 pj, .int .i64 pk, .int .i64 pd]), .val (.agg #[.int .i64 ni, .int .i64 nj, .int .i64 nk, .int .i64 nd]), .val (.bool false), .val (.bool false), .val (.bool false), .val (.agg #[.int .i64 ni, .int .i64 nj, .int .i64 nk, .int .i64 nd]), .val (.agg #[.int .i64 pi, .int .i64 pj, .int .i64 pk, .int .i64 pd]), .val (.agg #[.int .i64 pi, .int .i64 pj, .int .i64 pk, .int .i64 pd]), .val (.bool false), .val (.bool false), .val (.bool false), .val (.agg #[.int .i64 pi, .int .i64 pj, .int .i64 pk, .int .i64 pd]), .val (.bool true), .val (.bool false), .val (.bool false), .val (.bool false), .val (.agg #[.int .i64 ni, .int .i64 nj, .int .i64 nk, .int .i64 nd]), .val (.bool true), .val (.bool false), .val (.bool false), .val (.bool false), .val (.agg #[.int .i64 pi, .int .i64 pj, .int .i64 pk, .int .i64 pd]), .val (.slice (some ⟨g, 0, none⟩) 4 c), .val (.pointer (some ⟨g, 9, none⟩)), .val (.agg #[.int .i64 x9, .int .i64 x10, .int .i64 x11]), .val (.int .i64 (wrap64 (-sv))), .val (.agg #[.int .i64 ni, .int .i64 nj, .int .i64 nk, .int .i64 nd]), .val (.slice (some ⟨g, 0, none⟩) 4 c), .val (.pointer (some ⟨g, 9, none⟩)), .val (.agg #[.int .i64 x9, .int .i64 x10, .int .i64 x11]), .val (.int .i64 sv), .val (.int .i64 (wrap64 (-sv))), .val (.bool false), .val (.bool false)] [[], [], [0, 1], [2], [3], [3], [3, 5], [3, 4, 6], [3, 7], [8], [9], [9, 10], [9], [9, 11, 12], [9, 13], [14], [15], [15, 16], [15, 17], [15, 18], [19], [20], [20, 21], [20, 22], [20, 23], [24], [25], [25], [25, 27], [25, 28], [25, 26, 29], [25], [25], [25, 32], [25, 33], [25, 31, 34], [25, 35], [25, 30, 36], [25, 37]] [0, 1, 2, 3, 4, 5, 6, 7, 8, 9, 10, 11, 12, 13, 14, 15, 16, 17, 18, 19, 20, 21, 22, 23, 24, 25, 26, 27, 28, 29, 30, 31, 32, 33, 34, 35, 36, 37, 38] [] [] [] (fun _ => 0) W11 (by kernel_rfl) (by kernel_rfl) (by kernel_rfl) (by kernel_rfl) (by kernel_rfl) ?dist ?olds ?op ?al ?st ?into ?fin (fun _ => undef) _ _ (by kernel_rfl) (of_decide_eq_true (by kernel_rfl)) (of_decide_eq_true (by kernel_rfl))
            case hn => rfl
            case dist => intro i hi j hj; simp at hi hj; try omega
            case olds => exact nofun
            case op =>
              repeat' first | exact Each.nil | refine Each.cons ?_ ?_
              all_goals intro X w7 H hb hD h
              · have hv := v1.below (show Keep [] _ _ from hb).nil
                have c0_ := hv.at 0 rfl
                have c1_ := hv.at 1 rfl
                have c2_ := hv.at 2 rfl
                have c3_ := hv.at 3 rfl
                refine tv rfl (by rfl) ?_ (by exact h _ w7 rfl (Below.refl _ _))
                go_simp <;> first | rfl | (simp only [IntWalk.i64_left]; rfl) | (simp only [IntWalk.i64_left, *]; done) | (simp only [IntWalk.i64_left, *]; rfl)
              · have hv := v2.below (show Keep [] _ _ from hb).nil
                have c0_ := hv.at 0 rfl
                have c1_ := hv.at 1 rfl
                have c2_ := hv.at 2 rfl
                have c3_ := hv.at 3 rfl
                refine tv rfl (by rfl) ?_ (by exact h _ w7 rfl (Below.refl _ _))
                go_simp <;> first | rfl | (simp only [IntWalk.i64_left]; rfl) | (simp only [IntWalk.i64_left, *]; done) | (simp only [IntWalk.i64_left, *]; rfl)
              · have e0_ : X 0 = _ := hD 0 (by decide) rfl
                have e1_ : X 1 = _ := hD 1 (by decide) rfl
                refine tv rfl (by simp only [e0_, e1_]; rfl) ?_ (by exact h _ w7 rfl (Below.refl _ _))
                simp only [e0_, e1_]; go_simp <;> first | rfl | (simp only [IntWalk.i64_left]; rfl) | (simp only [IntWalk.i64_left, *]; done) | (simp only [IntWalk.i64_left, *]; rfl)
              · have e2_ : X 2 = _ := hD 2 (by decide) rfl
                refine tv rfl (by simp only [e2_]; rfl) ?_ (by exact h _ w7 rfl (Below.refl _ _))
                simp only [e2_]; go_simp <;> first | rfl | (simp only [IntWalk.i64_left]; rfl) | (simp only [IntWalk.i64_left, *]; done) | (simp only [IntWalk.i64_left, *]; rfl)
              · have e3_ : X 3 = _ := hD 3 (by decide) rfl
                have hv := v3.below (show Keep [] _ _ from hb).nil
                have c0_ := hv.at 0 rfl
                have c1_ := hv.at 1 rfl
                have c2_ := hv.at 2 rfl
                have c3_ := hv.at 3 rfl
                refine tv rfl (by simp only [e3_]; rfl) ?_ (by exact h _ w7 rfl (Below.refl _ _))
                simp only [e3_]; go_simp <;> first | rfl | (simp only [IntWalk.i64_left]; rfl) | (simp only [IntWalk.i64_left, *]; done) | (simp only [IntWalk.i64_left, *]; rfl)
              · have e3_ : X 3 = _ := hD 3 (by decide) rfl
                have hv := v1.below (show Keep [] _ _ from hb).nil
                have c0_ := hv.at 0 rfl
                have c1_ := hv.at 1 rfl
                have c2_ := hv.at 2 rfl
                have c3_ := hv.at 3 rfl
                refine tv rfl (by simp only [e3_]; rfl) ?_ (by exact h _ w7 rfl (Below.refl _ _))
                simp only [e3_]; go_simp <;> first | rfl | (simp only [IntWalk.i64_left]; rfl) | (simp only [IntWalk.i64_left, *]; done) | (simp only [IntWalk.i64_left, *]; rfl)
              · have e3_ : X 3 = _ := hD 3 (by decide) rfl
                have e5_ : X 5 = _ := hD 5 (by decide) rfl
                refine wpOp_call (i := 6) (f := 31) (args := #[.agg #[.int .i64 pi, .int .i64 pj, .int .i64 pk, .int .i64 pd]]) 110 rfl rfl (by simp only [e3_, e5_]; rfl) (by simp only [e3_, e5_]; go_simp) ?_
                refine (cF1.out _).mono ?_
                rintro e w8 ⟨rfl, hk⟩
                exact ⟨_, rfl, h _ w8 rfl hk⟩
              · have e3_ : X 3 = _ := hD 3 (by decide) rfl
                have e4_ : X 4 = _ := hD 4 (by decide) rfl
                have e6_ : X 6 = _ := hD 6 (by decide) rfl
                refine tv rfl (by simp only [e3_, e4_, e6_]; rfl) ?_ (by exact h _ w7 rfl (Below.refl _ _))
                simp only [e3_, e4_, e6_]; go_simp <;> first | rfl | (simp only [IntWalk.i64_left]; rfl) | (simp only [IntWalk.i64_left, *]; done) | (simp only [IntWalk.i64_left, *]; rfl)
              · have e3_ : X 3 = _ := hD 3 (by decide) rfl
                have e7_ : X 7 = _ := hD 7 (by decide) rfl
                refine tv rfl (by simp only [e3_, e7_]; rfl) ?_ (by exact h _ w7 rfl (Below.refl _ _))
                simp only [e3_, e7_]; go_simp <;> first | rfl | (simp only [IntWalk.i64_left]; rfl) | (simp only [IntWalk.i64_left, *]; done) | (simp only [IntWalk.i64_left, *]; rfl)
              · have e8_ : X 8 = _ := hD 8 (by decide) rfl
                refine tv rfl (by simp only [e8_]; rfl) ?_ (by exact h _ w7 rfl (Below.refl _ _))
                simp only [e8_]; go_simp <;> first | rfl | (simp only [IntWalk.i64_left]; rfl) | (simp only [IntWalk.i64_left, *]; done) | (simp only [IntWalk.i64_left, *]; rfl)
              · have e9_ : X 9 = _ := hD 9 (by decide) rfl
                have hv := v3.below (show Keep [] _ _ from hb).nil
                have c0_ := hv.at 0 rfl
                have c1_ := hv.at 1 rfl
                have c2_ := hv.at 2 rfl
                have c3_ := hv.at 3 rfl
                refine tv rfl (by simp only [e9_]; rfl) ?_ (by exact h _ w7 rfl (Below.refl _ _))
                simp only [e9_]; go_simp <;> first | rfl | (simp only [IntWalk.i64_left]; rfl) | (simp only [IntWalk.i64_left, *]; done) | (simp only [IntWalk.i64_left, *]; rfl)
              · have e9_ : X 9 = _ := hD 9 (by decide) rfl
                have e10_ : X 10 = _ := hD 10 (by decide) rfl
                refine wpOp_call (i := 11) (f := 31) (args := #[.agg #[.int .i64 ni, .int .i64 nj, .int .i64 nk, .int .i64 nd]]) 115 rfl rfl (by simp only [e9_, e10_]; rfl) (by simp only [e9_, e10_]; go_simp) ?_
                refine (cF2.out _).mono ?_
                rintro e w8 ⟨rfl, hk⟩
                exact ⟨_, rfl, h _ w8 rfl hk⟩
              · have e9_ : X 9 = _ := hD 9 (by decide) rfl
                have hv := v1.below (show Keep [] _ _ from hb).nil
                have c0_ := hv.at 0 rfl
                have c1_ := hv.at 1 rfl
                have c2_ := hv.at 2 rfl
                have c3_ := hv.at 3 rfl
                refine tv rfl (by simp only [e9_]; rfl) ?_ (by exact h _ w7 rfl (Below.refl _ _))
                simp only [e9_]; go_simp <;> first | rfl | (simp only [IntWalk.i64_left]; rfl) | (simp only [IntWalk.i64_left, *]; done) | (simp only [IntWalk.i64_left, *]; rfl)
              · have e9_ : X 9 = _ := hD 9 (by decide) rfl
                have e11_ : X 11 = _ := hD 11 (by decide) rfl
                have e12_ : X 12 = _ := hD 12 (by decide) rfl
                refine tv rfl (by simp only [e9_, e11_, e12_]; rfl) ?_ (by exact h _ w7 rfl (Below.refl _ _))
                simp only [e9_, e11_, e12_]; go_simp <;> first | rfl | (simp only [IntWalk.i64_left]; rfl) | (simp only [IntWalk.i64_left, *]; done) | (simp only [IntWalk.i64_left, *]; rfl)
              · have e9_ : X 9 = _ := hD 9 (by decide) rfl
                have e13_ : X 13 = _ := hD 13 (by decide) rfl
                refine tv rfl (by simp only [e9_, e13_]; rfl) ?_ (by exact h _ w7 rfl (Below.refl _ _))
                simp only [e9_, e13_]; go_simp <;> first | rfl | (simp only [IntWalk.i64_left]; rfl) | (simp only [IntWalk.i64_left, *]; done) | (simp only [IntWalk.i64_left, *]; rfl)
              · have e14_ : X 14 = _ := hD 14 (by decide) rfl
                refine tv rfl (by simp only [e14_]; rfl) ?_ (by exact h _ w7 rfl (Below.refl _ _))
                simp only [e14_]; go_simp <;> first | rfl | (simp only [IntWalk.i64_left]; rfl) | (simp only [IntWalk.i64_left, *]; done) | (simp only [IntWalk.i64_left, *]; rfl)
              · have e15_ : X 15 = _ := hD 15 (by decide) rfl
                have hv := v1.below (show Keep [] _ _ from hb).nil
                have c0_ := hv.at 0 rfl
                have c1_ := hv.at 1 rfl
                have c2_ := hv.at 2 rfl
                have c3_ := hv.at 3 rfl
                refine tv rfl (by simp only [e15_]; rfl) ?_ (by exact h _ w7 rfl (Below.refl _ _))
                simp only [e15_]; go_simp <;> first | rfl | (simp only [IntWalk.i64_left]; rfl) | (simp only [IntWalk.i64_left, *]; done) | (simp only [IntWalk.i64_left, *]; rfl)
              · have e15_ : X 15 = _ := hD 15 (by decide) rfl
                have e16_ : X 16 = _ := hD 16 (by decide) rfl
                refine wpOp_call (i := 17) (f := 29) (args := #[.agg #[.int .i64 pi, .int .i64 pj, .int .i64 pk, .int .i64 pd]]) 121 rfl rfl (by simp only [e15_, e16_]; rfl) (by simp only [e15_, e16_]; go_simp) ?_
                refine (cV1.out _).mono ?_
                rintro e w8 ⟨rfl, hk⟩
                exact ⟨_, rfl, h _ w8 rfl hk⟩
              · have e15_ : X 15 = _ := hD 15 (by decide) rfl
                have e17_ : X 17 = _ := hD 17 (by decide) rfl
                refine tv rfl (by simp only [e15_, e17_]; rfl) ?_ (by exact h _ w7 rfl (Below.refl _ _))
                simp only [e15_, e17_]; go_simp <;> first | rfl | (simp only [IntWalk.i64_left]; rfl) | (simp only [IntWalk.i64_left, *]; done) | (simp only [IntWalk.i64_left, *]; rfl)
              · have e15_ : X 15 = _ := hD 15 (by decide) rfl
                have e18_ : X 18 = _ := hD 18 (by decide) rfl
                refine tv rfl (by simp only [e15_, e18_]; rfl) ?_ (by exact h _ w7 rfl (Below.refl _ _))
                simp only [e15_, e18_]; go_simp <;> first | rfl | (simp only [IntWalk.i64_left]; rfl) | (simp only [IntWalk.i64_left, *]; done) | (simp only [IntWalk.i64_left, *]; rfl)
              · have e19_ : X 19 = _ := hD 19 (by decide) rfl
                refine tv rfl (by simp only [e19_]; rfl) ?_ (by exact h _ w7 rfl (Below.refl _ _))
                simp only [e19_]; go_simp <;> first | rfl | (simp only [IntWalk.i64_left]; rfl) | (simp only [IntWalk.i64_left, *]; done) | (simp only [IntWalk.i64_left, *]; rfl)
              · have e20_ : X 20 = _ := hD 20 (by decide) rfl
                have hv := v3.below (show Keep [] _ _ from hb).nil
                have c0_ := hv.at 0 rfl
                have c1_ := hv.at 1 rfl
                have c2_ := hv.at 2 rfl
                have c3_ := hv.at 3 rfl
                refine tv rfl (by simp only [e20_]; rfl) ?_ (by exact h _ w7 rfl (Below.refl _ _))
                simp only [e20_]; go_simp <;> first | rfl | (simp only [IntWalk.i64_left]; rfl) | (simp only [IntWalk.i64_left, *]; done) | (simp only [IntWalk.i64_left, *]; rfl)
              · have e20_ : X 20 = _ := hD 20 (by decide) rfl
                have e21_ : X 21 = _ := hD 21 (by decide) rfl
                refine wpOp_call (i := 22) (f := 29) (args := #[.agg #[.int .i64 ni, .int .i64 nj, .int .i64 nk, .int .i64 nd]]) 126 rfl rfl (by simp only [e20_, e21_]; rfl) (by simp only [e20_, e21_]; go_simp) ?_
                refine (cV2.out _).mono ?_
                rintro e w8 ⟨rfl, hk⟩
                exact ⟨_, rfl, h _ w8 rfl hk⟩
              · have e20_ : X 20 = _ := hD 20 (by decide) rfl
                have e22_ : X 22 = _ := hD 22 (by decide) rfl
                refine tv rfl (by simp only [e20_, e22_]; rfl) ?_ (by exact h _ w7 rfl (Below.refl _ _))
                simp only [e20_, e22_]; go_simp <;> first | rfl | (simp only [IntWalk.i64_left]; rfl) | (simp only [IntWalk.i64_left, *]; done) | (simp only [IntWalk.i64_left, *]; rfl)
              · have e20_ : X 20 = _ := hD 20 (by decide) rfl
                have e23_ : X 23 = _ := hD 23 (by decide) rfl
                refine tv rfl (by simp only [e20_, e23_]; rfl) ?_ (by exact h _ w7 rfl (Below.refl _ _))
                simp only [e20_, e23_]; go_simp <;> first | rfl | (simp only [IntWalk.i64_left]; rfl) | (simp only [IntWalk.i64_left, *]; done) | (simp only [IntWalk.i64_left, *]; rfl)
              · have e24_ : X 24 = _ := hD 24 (by decide) rfl
                refine tv rfl (by simp only [e24_]; rfl) ?_ (by exact h _ w7 rfl (Below.refl _ _))
                simp only [e24_]; go_simp <;> first | rfl | (simp only [IntWalk.i64_left]; rfl) | (simp only [IntWalk.i64_left, *]; done) | (simp only [IntWalk.i64_left, *]; rfl)
              · have e25_ : X 25 = _ := hD 25 (by decide) rfl
                have hv := v1.below (show Keep [] _ _ from hb).nil
                have c0_ := hv.at 0 rfl
                have c1_ := hv.at 1 rfl
                have c2_ := hv.at 2 rfl
                have c3_ := hv.at 3 rfl
                refine tv rfl (by simp only [e25_]; rfl) ?_ (by exact h _ w7 rfl (Below.refl _ _))
                simp only [e25_]; go_simp <;> first | rfl | (simp only [IntWalk.i64_left]; rfl) | (simp only [IntWalk.i64_left, *]; done) | (simp only [IntWalk.i64_left, *]; rfl)
              · have e25_ : X 25 = _ := hD 25 (by decide) rfl
                refine tv rfl (by simp only [e25_]; rfl) ?_ (by exact h _ w7 rfl (Below.refl _ _))
                simp only [e25_]; go_simp <;> first | rfl | (simp only [IntWalk.i64_left]; rfl) | (simp only [IntWalk.i64_left, *]; done) | (simp only [IntWalk.i64_left, *]; rfl)
              · have e25_ : X 25 = _ := hD 25 (by decide) rfl
                have e27_ : X 27 = _ := hD 27 (by decide) rfl
                refine tv rfl (by simp only [e25_, e27_]; rfl) ?_ (by exact h _ w7 rfl (Below.refl _ _))
                simp only [e25_, e27_]; go_simp <;> first | rfl | (simp only [IntWalk.i64_left]; rfl) | (simp only [IntWalk.i64_left, *]; done) | (simp only [IntWalk.i64_left, *]; rfl)
              · have e25_ : X 25 = _ := hD 25 (by decide) rfl
                have e28_ : X 28 = _ := hD 28 (by decide) rfl
                have hv := hv.below (show Keep [] _ _ from hb).nil
                have c0_ := hv.at 9 rfl
                have c1_ := hv.at 10 rfl
                have c2_ := hv.at 11 rfl
                refine tv rfl (by simp only [e25_, e28_]; rfl) ?_ (by exact h _ w7 rfl (Below.refl _ _))
                simp only [e25_, e28_]; go_simp <;> first | rfl | (simp only [IntWalk.i64_left]; rfl) | (simp only [IntWalk.i64_left, *]; done) | (simp only [IntWalk.i64_left, *]; rfl)
              · have e25_ : X 25 = _ := hD 25 (by decide) rfl
                have e26_ : X 26 = _ := hD 26 (by decide) rfl
                have e29_ : X 29 = _ := hD 29 (by decide) rfl
                refine wpOp_call (i := 30) (f := 33) (args := #[.agg #[.int .i64 pi, .int .i64 pj, .int .i64 pk, .int .i64 pd], .agg #[.int .i64 x9, .int .i64 x10, .int .i64 x11]]) 134 rfl rfl (by simp only [e25_, e26_, e29_]; rfl) (by simp only [e25_, e26_, e29_]; go_simp) ?_
                refine (cS1.out _).mono ?_
                rintro e w8 ⟨rfl, hk⟩
                exact ⟨_, rfl, h _ w8 rfl hk⟩
              · have e25_ : X 25 = _ := hD 25 (by decide) rfl
                have hv := v3.below (show Keep [] _ _ from hb).nil
                have c0_ := hv.at 0 rfl
                have c1_ := hv.at 1 rfl
                have c2_ := hv.at 2 rfl
                have c3_ := hv.at 3 rfl
                refine tv rfl (by simp only [e25_]; rfl) ?_ (by exact h _ w7 rfl (Below.refl _ _))
                simp only [e25_]; go_simp <;> first | rfl | (simp only [IntWalk.i64_left]; rfl) | (simp only [IntWalk.i64_left, *]; done) | (simp only [IntWalk.i64_left, *]; rfl)
              · have e25_ : X 25 = _ := hD 25 (by decide) rfl
                refine tv rfl (by simp only [e25_]; rfl) ?_ (by exact h _ w7 rfl (Below.refl _ _))
                simp only [e25_]; go_simp <;> first | rfl | (simp only [IntWalk.i64_left]; rfl) | (simp only [IntWalk.i64_left, *]; done) | (simp only [IntWalk.i64_left, *]; rfl)
              · have e25_ : X 25 = _ := hD 25 (by decide) rfl
                have e32_ : X 32 = _ := hD 32 (by decide) rfl
                refine tv rfl (by simp only [e25_, e32_]; rfl) ?_ (by exact h _ w7 rfl (Below.refl _ _))
                simp only [e25_, e32_]; go_simp <;> first | rfl | (simp only [IntWalk.i64_left]; rfl) | (simp only [IntWalk.i64_left, *]; done) | (simp only [IntWalk.i64_left, *]; rfl)
              · have e25_ : X 25 = _ := hD 25 (by decide) rfl
                have e33_ : X 33 = _ := hD 33 (by decide) rfl
                have hv := hv.below (show Keep [] _ _ from hb).nil
                have c0_ := hv.at 9 rfl
                have c1_ := hv.at 10 rfl
                have c2_ := hv.at 11 rfl
                refine tv rfl (by simp only [e25_, e33_]; rfl) ?_ (by exact h _ w7 rfl (Below.refl _ _))
                simp only [e25_, e33_]; go_simp <;> first | rfl | (simp only [IntWalk.i64_left]; rfl) | (simp only [IntWalk.i64_left, *]; done) | (simp only [IntWalk.i64_left, *]; rfl)
              · have e25_ : X 25 = _ := hD 25 (by decide) rfl
                have e31_ : X 31 = _ := hD 31 (by decide) rfl
                have e34_ : X 34 = _ := hD 34 (by decide) rfl
                refine wpOp_call (i := 35) (f := 33) (args := #[.agg #[.int .i64 ni, .int .i64 nj, .int .i64 nk, .int .i64 nd], .agg #[.int .i64 x9, .int .i64 x10, .int .i64 x11]]) 139 rfl rfl (by simp only [e25_, e31_, e34_]; rfl) (by simp only [e25_, e31_, e34_]; go_simp) ?_
                refine (cS2.out _).mono ?_
                rintro e w8 ⟨rfl, hk⟩
                exact ⟨_, rfl, h _ w8 rfl hk⟩
              · have e25_ : X 25 = _ := hD 25 (by decide) rfl
                have e35_ : X 35 = _ := hD 35 (by decide) rfl
                refine tv rfl (by simp only [e25_, e35_]; rfl) ?_ (by exact h _ w7 rfl (Below.refl _ _))
                simp only [e25_, e35_]; go_simp <;> first | rfl | (simp only [IntWalk.i64_left]; rfl) | (simp only [IntWalk.i64_left, *]; done) | (simp only [IntWalk.i64_left, *]; rfl)
              · have e25_ : X 25 = _ := hD 25 (by decide) rfl
                have e30_ : X 30 = _ := hD 30 (by decide) rfl
                have e36_ : X 36 = _ := hD 36 (by decide) rfl
                refine tv rfl (by simp only [e25_, e30_, e36_]; rfl) ?_ (by exact h _ w7 rfl (Below.refl _ _))
                simp only [e25_, e30_, e36_]; go_simp <;> first | rfl | (simp only [IntWalk.i64_left]; rfl) | (simp only [IntWalk.i64_left, *]; done) | (simp only [IntWalk.i64_left, *]; rfl)
              · have e25_ : X 25 = _ := hD 25 (by decide) rfl
                have e37_ : X 37 = _ := hD 37 (by decide) rfl
                refine tv rfl (by simp only [e25_, e37_]; rfl) ?_ (by exact h _ w7 rfl (Below.refl _ _))
                simp only [e25_, e37_]; go_simp <;> first | rfl | (simp only [IntWalk.i64_left]; rfl) | (simp only [IntWalk.i64_left, *]; done) | (simp only [IntWalk.i64_left, *]; rfl)
            case al => exact Each.nil
            case st => exact Each.nil
            case into => exact Each.nil
            case fin =>
              intro X11_ W12 hI
              have hE : Keep [] W11 W12 := hI.keep
              have e38_ : X11_ 38 = _ := hI.fact 38 (by decide) rfl rfl
              have v0 := v0.below hE.nil
              have hv := hv.below hE.nil
              have v1 := v1.below hE.nil
              have v2 := v2.below hE.nil
              have v3 := v3.below hE.nil
              have hB := hB.trans (hE.nil.mono hB.size)
              simp only [e38_]
              clear e38_ hI hE
              clear v2
              clear v3
              go_wp2_with fail
              go_loopw [146] (fun i wr => ∃ kk : Nat, kk ≤ 3 ∧ i = .int .i64 (kk : Int) ∧ Below w.heap.size w wr ∧ Var wr b0 [.int .u8 (e0 : Int), .int .u8 (e1 : Int), .int .u8 (e2 : Int)] ∧ Var wr g [.int .i64 x0, .int .i64 x1, .int .i64 x2, .int .i64 x3, .int .i64 x4, .int .i64 x5, .int .i64 x6, .int .i64 x7, .int .i64 x8, .int .i64 x9, .int .i64 x10, .int .i64 x11] ∧ Var wr b1 [.int .i64 pi, .int .i64 pj, .int .i64 pk, .int .i64 pd]) (fun i _ => 3 - (intOf i).toNat)
              case atStart => exact ⟨0, by omega, rfl, hB, v0, hv, v1⟩
              case round =>
                clear hB v0 hv v1
                obtain ⟨kk, hkk, rfl, hB, v0, hv, v1⟩ := hrel
                by_cases hlt : kk < 3
                · have hk4 : (kk : Int) < 3 := by omega
                  obtain ⟨y1, y2, y3, hy, qq0, qq1, qq2⟩ : ∃ y1 y2 y3 : Int, Hid (OnP pi pj pk pd y1 y2 y3) ∧ ([.int .i64 x0, .int .i64 x1, .int .i64 x2, .int .i64 x3, .int .i64 x4, .int .i64 x5, .int .i64 x6, .int .i64 x7, .int .i64 x8, .int .i64 x9, .int .i64 x10, .int .i64 x11] : List Value)[kk * 3]? = some (.int .i64 y1) ∧ ([.int .i64 x0, .int .i64 x1, .int .i64 x2, .int .i64 x3, .int .i64 x4, .int .i64 x5, .int .i64 x6, .int .i64 x7, .int .i64 x8, .int .i64 x9, .int .i64 x10, .int .i64 x11] : List Value)[kk * 3 + 1]? = some (.int .i64 y2) ∧ ([.int .i64 x0, .int .i64 x1, .int .i64 x2, .int .i64 x3, .int .i64 x4, .int .i64 x5, .int .i64 x6, .int .i64 x7, .int .i64 x8, .int .i64 x9, .int .i64 x10, .int .i64 x11] : List Value)[kk * 3 + 2]? = some (.int .i64 y3) := by
                    match kk, hlt with
                    | 0, _ => exact ⟨_, _, _, cO0, rfl, rfl, rfl⟩
                    | 1, _ => exact ⟨_, _, _, cO1, rfl, rfl, rfl⟩
                    | 2, _ => exact ⟨_, _, _, cO2, rfl, rfl, rfl⟩
                  have d0_ := hv.at (kk * 3) qq0
                  have d1_ := hv.at (kk * 3 + 1) qq1
                  have d2_ := hv.at (kk * 3 + 2) qq2
                  clear qq0 qq1 qq2
                  go_wp2_with fail
                  refine wp_region_dag (by kernel_rfl) ?_
                  intro W13 hk
                  have hs : Below wr.heap.size wr W13 := Below.trans (by repeat (first | exact Below.refl _ _ | refine Below.alloc ?_ (by first | omega | (simp; try omega)) _ | refine Below.setCell ?_ (by first | omega | (simp; try omega)) _)) (hk.mono (by first | omega | (simp; try omega)))
                  have v0 := v0.below hs
                  have hv := hv.below hs
                  have v1 := v1.below hs
                  have v4 : Var W13 (wr.heap.size) [.int .i64 y1, .int .i64 y2, .int .i64 y3] := Var.low ⟨by first | omega | (simp; try omega), by simp [Cel, go_sem]⟩ hk (by first | omega | (simp; try omega))
                  obtain ⟨b4, hb4⟩ : ∃ b, wr.heap.size = b := ⟨_, rfl⟩
                  have lob4 : w.heap.size ≤ b4 := by have := hB.size; omega
                  rw [hb4] at v4
                  try rw [hb4]
                  have hB := hB.trans (hs.mono hB.size)
                  clear hb4 hs hk
                  refine dagV (fun _ => trivial) 13 ?hn (fun X => ⟨#[.slice (some ad) len cap, .agg #[.int .u8 (e0 : Int), .int .u8 (e1 : Int), .int .u8 (e2 : Int)], undef, .pointer (some ⟨b0, 0, none⟩), u4, .bool true, .slice (some ⟨g, 0, none⟩) 4 c, .pointer (some ⟨b1, 0, none⟩), .bool true, .pointer (some ⟨b2, 0, none⟩), .bool true, .pointer (some ⟨b3, 0, none⟩), .bool true, .bool false, undef, .pointer (some ⟨b4, 0, none⟩), undef, undef, undef, undef, undef, .bool true, .slice (some ad) len cap, .slice (some ad) len cap, .int .i64 (len : Int), .int .i64 16, .slice (some ad) 16 cap, .slice (some ⟨g, 0, none⟩) 4 c, X3_ 10, X3_ 0, X3_ 1, X3_ 2, X3_ 3, X3_ 4, X3_ 5, X3_ 6, X3_ 7, X3_ 8, X3_ 9, .agg #[.int .i64 pi, .int .i64 pj, .int .i64 pk, .int .i64 pd], X3_ 12, X4_ 10, X4_ 0, X4_ 1, X4_ 2, X4_ 3, X4_ 4, X4_ 5, X4_ 6, X4_ 7, X4_ 8, X4_ 9, .agg #[.int .i64 pi, .int .i64 pj, .int .i64 pk, .int .i64 pd], X4_ 12, X5_ 10, X5_ 0, X5_ 1, X5_ 2, X5_ 3, X5_ 4, X5_ 5, X5_ 6, X5_ 7, X5_ 8, X5_ 9, .agg #[.int .i64 ni, .int .i64 nj, .int .i64 nk, .int .i64 nd], X5_ 12, X6_ 0, X6_ 1, X6_ 2, X6_ 3, X6_ 4, X6_ 5, X6_ 6, X6_ 7, X6_ 8, X6_ 9, X6_ 10, X6_ 11, X6_ 12, X6_ 13, X6_ 14, X6_ 15, X6_ 16, .bool true, .bool false, .bool false, .bool false, .bool true, .bool true, .bool false, .bool false, .bool false, .bool true, .bool true, .bool false, .bool false, .bool false, undef, undef, undef, undef, undef, undef, X11_ 0, X11_ 1, X11_ 2, X11_ 3, X11_ 4, X11_ 5, X11_ 6, X11_ 7, X11_ 8, X11_ 9, X11_ 10, X11_ 11, X11_ 12, X11_ 13, X11_ 14, X11_ 15, X11_ 16, X11_ 17, X11_ 18, X11_ 19, X11_ 20, X11_ 21, X11_ 22, X11_ 23, X11_ 24, X11_ 25, X11_ 26, X11_ 27, X11_ 28, X11_ 29, X11_ 30, X11_ 31, X11_ 32, X11_ 33, X11_ 34, X11_ 35, X11_ 36, X11_ 37, .bool false, .slice (some ⟨g, 0, none⟩) 4 c, .slice (some ⟨g, 0, none⟩) 3 c, .int .i64 3, .int .i64 (kk : Int), .bool true, .pointer (some ⟨g, kk * 3, none⟩), .agg #[.int .i64 y1, .int .i64 y2, .int .i64 y3], X 0, X 1, X 2, X 3, X 4, X 5, X 6, X 7, X 8, X 9, X 10, X 11, X 12, u163, undef, undef, undef, undef, undef, undef, undef, undef, undef, undef, undef, undef, undef, undef, undef, undef, undef, undef, undef, undef, undef, undef, undef, undef, undef, undef, undef, undef, undef, undef, undef, undef, undef, undef, undef, undef, undef, undef, undef, undef, undef, undef, undef, undef, undef, undef, undef, undef, undef, undef, undef, undef, undef, undef, undef, undef, undef, undef, undef, undef, undef, undef, undef, undef, undef, undef, undef], []⟩) [(0, 0, 0), (0, 0, 0), (0, 0, 0), (0, 0, 0), (0, 0, 0), (0, 0, 0), (0, 0, 0), (0, 0, 0), (0, 0, 0), (0, 0, 0), (0, 0, 0), (0, 0, 0), (0, 0, 0)] (fun _ => []) [.val (.agg #[.int .i64 pi, .int .i64 pj, .int .i64 pk, .int .i64 pd]), .val (.agg #[.int .i64 y1, .int .i64 y2, .int .i64 y3]), .val (.int .i64 0), .val (.bool false), .val (.bool false), .val (.pointer (some ⟨b1, 0, none⟩)), .val (.agg #[.int .i64 pi, .int .i64 pj, .int .i64 pk]), .val (.agg #[.int .i64 y1, .int .i64 y2, .int .i64 y3]), .val (.int .i64 pd), .val (.pointer (some ⟨b1, 3, none⟩)), .val (.int .i64 pd), .val (.bool false), .val (.bool false)] [[], [], [0, 1], [2], [3], [4], [4, 5], [4], [4, 6, 7], [4], [4, 9], [4, 8, 10], [4, 11]] [0, 1, 2, 3, 4, 5, 6, 7, 8, 9, 10, 11, 12] [] [] [] (fun _ => 0) W13 (by kernel_rfl) (by kernel_rfl) (by kernel_rfl) (by kernel_rfl) (by kernel_rfl) ?dist ?olds ?op ?al ?st ?into ?fin (upd (upd (upd (upd (upd (upd (upd (upd (upd (upd (upd (upd (upd (fun _ => undef) 0 (u150)) 1 (u151)) 2 (u152)) 3 (u153)) 4 (u154)) 5 (u155)) 6 (u156)) 7 (u157)) 8 (u158)) 9 (u159)) 10 (u160)) 11 (u161)) 12 (u162)) _ _ (by kernel_rfl) (of_decide_eq_true (by kernel_rfl)) (of_decide_eq_true (by kernel_rfl))
                  case hn => rfl
                  case dist => intro i hi j hj; simp at hi hj; try omega
                  case olds => exact nofun
                  case op =>
                    repeat' first | exact Each.nil | refine Each.cons ?_ ?_
                    all_goals intro X w7 H hb hD h
                    · have hv := v1.below (show Keep [] _ _ from hb).nil
                      have c0_ := hv.at 0 rfl
                      have c1_ := hv.at 1 rfl
                      have c2_ := hv.at 2 rfl
                      have c3_ := hv.at 3 rfl
                      refine tv rfl (by rfl) ?_ (by exact h _ w7 rfl (Below.refl _ _))
                      go_simp <;> first | rfl | (simp only [IntWalk.i64_left]; rfl) | (simp only [IntWalk.i64_left, *]; done) | (simp only [IntWalk.i64_left, *]; rfl)
                    · have hv := v4.below (show Keep [] _ _ from hb).nil
                      have c0_ := hv.at 0 rfl
                      have c1_ := hv.at 1 rfl
                      have c2_ := hv.at 2 rfl
                      refine tv rfl (by rfl) ?_ (by exact h _ w7 rfl (Below.refl _ _))
                      go_simp <;> first | rfl | (simp only [IntWalk.i64_left]; rfl) | (simp only [IntWalk.i64_left, *]; done) | (simp only [IntWalk.i64_left, *]; rfl)
                    · have e0_ : X 0 = _ := hD 0 (by decide) rfl
                      have e1_ : X 1 = _ := hD 1 (by decide) rfl
                      refine wpOp_call (i := 2) (f := 33) (args := #[.agg #[.int .i64 pi, .int .i64 pj, .int .i64 pk, .int .i64 pd], .agg #[.int .i64 y1, .int .i64 y2, .int .i64 y3]]) 152 rfl rfl (by simp only [e0_, e1_]; rfl) (by simp only [e0_, e1_]; go_simp) ?_
                      refine (hy.out.1 _).mono ?_
                      rintro e w8 ⟨rfl, hk⟩
                      exact ⟨_, rfl, h _ w8 rfl hk⟩
                    · have e2_ : X 2 = _ := hD 2 (by decide) rfl
                      refine tv rfl (by simp only [e2_]; rfl) ?_ (by exact h _ w7 rfl (Below.refl _ _))
                      simp only [e2_]; go_simp <;> first | rfl | (simp only [IntWalk.i64_left]; rfl) | (simp only [IntWalk.i64_left, *]; done) | (simp only [IntWalk.i64_left, *]; rfl)
                    · have e3_ : X 3 = _ := hD 3 (by decide) rfl
                      refine tv rfl (by simp only [e3_]; rfl) ?_ (by exact h _ w7 rfl (Below.refl _ _))
                      simp only [e3_]; go_simp <;> first | rfl | (simp only [IntWalk.i64_left]; rfl) | (simp only [IntWalk.i64_left, *]; done) | (simp only [IntWalk.i64_left, *]; rfl)
                    · have e4_ : X 4 = _ := hD 4 (by decide) rfl
                      refine tv rfl (by simp only [e4_]; rfl) ?_ (by exact h _ w7 rfl (Below.refl _ _))
                      simp only [e4_]; go_simp <;> first | rfl | (simp only [IntWalk.i64_left]; rfl) | (simp only [IntWalk.i64_left, *]; done) | (simp only [IntWalk.i64_left, *]; rfl)
                    · have e4_ : X 4 = _ := hD 4 (by decide) rfl
                      have e5_ : X 5 = _ := hD 5 (by decide) rfl
                      have hv := v1.below (show Keep [] _ _ from hb).nil
                      have c0_ := hv.at 0 rfl
                      have c1_ := hv.at 1 rfl
                      have c2_ := hv.at 2 rfl
                      refine tv rfl (by simp only [e4_, e5_]; rfl) ?_ (by exact h _ w7 rfl (Below.refl _ _))
                      simp only [e4_, e5_]; go_simp <;> first | rfl | (simp only [IntWalk.i64_left]; rfl) | (simp only [IntWalk.i64_left, *]; done) | (simp only [IntWalk.i64_left, *]; rfl)
                    · have e4_ : X 4 = _ := hD 4 (by decide) rfl
                      have hv := v4.below (show Keep [] _ _ from hb).nil
                      have c0_ := hv.at 0 rfl
                      have c1_ := hv.at 1 rfl
                      have c2_ := hv.at 2 rfl
                      refine tv rfl (by simp only [e4_]; rfl) ?_ (by exact h _ w7 rfl (Below.refl _ _))
                      simp only [e4_]; go_simp <;> first | rfl | (simp only [IntWalk.i64_left]; rfl) | (simp only [IntWalk.i64_left, *]; done) | (simp only [IntWalk.i64_left, *]; rfl)
                    · have e4_ : X 4 = _ := hD 4 (by decide) rfl
                      have e6_ : X 6 = _ := hD 6 (by decide) rfl
                      have e7_ : X 7 = _ := hD 7 (by decide) rfl
                      refine wpOp_call (i := 8) (f := 19) (args := #[.agg #[.int .i64 pi, .int .i64 pj, .int .i64 pk], .agg #[.int .i64 y1, .int .i64 y2, .int .i64 y3]]) 158 rfl rfl (by simp only [e4_, e6_, e7_]; rfl) (by simp only [e4_, e6_, e7_]; go_simp) ?_
                      refine (hy.out.2 _).mono ?_
                      rintro e w8 ⟨rfl, hk⟩
                      exact ⟨_, rfl, h _ w8 rfl hk⟩
                    · have e4_ : X 4 = _ := hD 4 (by decide) rfl
                      refine tv rfl (by simp only [e4_]; rfl) ?_ (by exact h _ w7 rfl (Below.refl _ _))
                      simp only [e4_]; go_simp <;> first | rfl | (simp only [IntWalk.i64_left]; rfl) | (simp only [IntWalk.i64_left, *]; done) | (simp only [IntWalk.i64_left, *]; rfl)
                    · have e4_ : X 4 = _ := hD 4 (by decide) rfl
                      have e9_ : X 9 = _ := hD 9 (by decide) rfl
                      have hv := v1.below (show Keep [] _ _ from hb).nil
                      have c0_ := hv.at 3 rfl
                      refine tv rfl (by simp only [e4_, e9_]; rfl) ?_ (by exact h _ w7 rfl (Below.refl _ _))
                      simp only [e4_, e9_]; go_simp <;> first | rfl | (simp only [IntWalk.i64_left]; rfl) | (simp only [IntWalk.i64_left, *]; done) | (simp only [IntWalk.i64_left, *]; rfl)
                    · have e4_ : X 4 = _ := hD 4 (by decide) rfl
                      have e8_ : X 8 = _ := hD 8 (by decide) rfl
                      have e10_ : X 10 = _ := hD 10 (by decide) rfl
                      refine tv rfl (by simp only [e4_, e8_, e10_]; rfl) ?_ (by exact h _ w7 rfl (Below.refl _ _))
                      simp only [e4_, e8_, e10_]; go_simp <;> first | rfl | (simp only [IntWalk.i64_left]; rfl) | (simp only [IntWalk.i64_left, *]; done) | (simp only [IntWalk.i64_left, *]; rfl)
                    · have e4_ : X 4 = _ := hD 4 (by decide) rfl
                      have e11_ : X 11 = _ := hD 11 (by decide) rfl
                      refine tv rfl (by simp only [e4_, e11_]; rfl) ?_ (by exact h _ w7 rfl (Below.refl _ _))
                      simp only [e4_, e11_]; go_simp <;> first | rfl | (simp only [IntWalk.i64_left]; rfl) | (simp only [IntWalk.i64_left, *]; done) | (simp only [IntWalk.i64_left, *]; rfl)
                  case al => exact Each.nil
                  case st => exact Each.nil
                  case into => exact Each.nil
                  case fin =>
                    intro X16_ W14 hI
                    have hE : Keep [] W13 W14 := hI.keep
                    have e12_ : X16_ 12 = _ := hI.fact 12 (by decide) rfl rfl
                    have v0 := v0.below hE.nil
                    have hv := hv.below hE.nil
                    have v1 := v1.below hE.nil
                    have v4 := v4.below hE.nil
                    have hB := hB.trans (hE.nil.mono hB.size)
                    simp only [e12_]
                    clear e12_ hI hE
                    clear d0_ d1_ d2_
                    go_wp2_with fail
                    have hBs := hB.size
                    go_roundw
                    case rel => first | exact ⟨kk + 1, by omega, by simp, by repeat (first | exact hB | refine Below.alloc ?_ (by first | omega | (simp; try omega)) _ | refine Below.setCell ?_ (by first | omega | (simp; try omega)) _), v0, hv, v1⟩ | ((repeat apply Exists.intro); refine ⟨⟨kk + 1, by omega, by simp, by repeat (first | exact hB | refine Below.alloc ?_ (by first | omega | (simp; try omega)) _ | refine Below.setCell ?_ (by first | omega | (simp; try omega)) _), v0, hv, v1⟩, rfl⟩)
                    case measure => simp [intOf]; omega
                · obtain rfl : kk = 3 := by omega
                  have hh0 := ht0_.out
                  have hh1 := ht1_.out
                  have hh2 := ht2_.out
                  have cb0_0 := v0.at 0 rfl
                  have cb0_1 := v0.at 1 rfl
                  have cb0_2 := v0.at 2 rfl
                  go_wp2_with fail
                  refine (vec_l t1 t2 t3 _).mono ?_
                  rintro e W13 ⟨rfl, hk⟩
                  try simp only [V]
                  have hs := hk
                  have v0 := v0.below hs
                  have hv := hv.below hs
                  have v1 := v1.below hs
                  have hB := hB.trans (hs.mono hB.size)
                  clear cb0_0 cb0_1 cb0_2 hs hk
                  go_wp2_with fail
                  clear hh0 hh1 hh2
                  go_wp2_with fail
                  obtain ⟨W14, hW_⟩ : ∃ W, (W13.alloc (.cells #[.int .i64 t1, .int .i64 t2, .int .i64 t3] 23)).alloc (.cells #[.int .i64 0, .int .i64 0, .int .i64 0, .int .i64 0, .int .i64 0, .int .i64 0, .int .i64 0, .int .i64 0, .int .i64 0] 51) = W := ⟨_, rfl⟩
                  have hk : Below ((W13.alloc (.cells #[.int .i64 t1, .int .i64 t2, .int .i64 t3] 23)).alloc (.cells #[.int .i64 0, .int .i64 0, .int .i64 0, .int .i64 0, .int .i64 0, .int .i64 0, .int .i64 0, .int .i64 0, .int .i64 0] 51)).heap.size ((W13.alloc (.cells #[.int .i64 t1, .int .i64 t2, .int .i64 t3] 23)).alloc (.cells #[.int .i64 0, .int .i64 0, .int .i64 0, .int .i64 0, .int .i64 0, .int .i64 0, .int .i64 0, .int .i64 0, .int .i64 0] 51)) W14 := by rw [hW_]; exact Below.refl _ _
                  try rw [hW_]
                  clear hW_
                  have l_b0 := v0.1
                  have l_g := hv.1
                  have l_b1 := v1.1
                  have hs : Below W13.heap.size W13 W14 := Below.trans (by repeat (first | exact Below.refl _ _ | refine Below.alloc ?_ (by first | omega | (simp; try omega)) _ | refine Below.setCell ?_ (by first | omega | (simp; try omega)) _)) (hk.mono (by first | omega | (simp; try omega)))
                  have v0 := v0.below hs
                  have hv := hv.below hs
                  have v1 := v1.below hs
                  have v4 : Var W14 (W13.heap.size) [.int .i64 t1, .int .i64 t2, .int .i64 t3] := Var.low ⟨by first | omega | (simp; try omega), by simp [Cel, go_sem]⟩ hk (by first | omega | (simp; try omega))
                  have v5 : Var W14 (W13.heap.size + 1) [.int .i64 0, .int .i64 0, .int .i64 0, .int .i64 0, .int .i64 0, .int .i64 0, .int .i64 0, .int .i64 0, .int .i64 0] := Var.low ⟨by first | omega | (simp; try omega), by simp [Cel, go_sem]⟩ hk (by first | omega | (simp; try omega))
                  obtain ⟨b5, hb5⟩ : ∃ b, W13.heap.size + 1 = b := ⟨_, rfl⟩
                  have lob5 : w.heap.size ≤ b5 := by have := hB.size; omega
                  have db0_b5 : b0 ≠ b5 := by omega
                  have dg_b5 : g ≠ b5 := by omega
                  have db1_b5 : b1 ≠ b5 := by omega
                  obtain ⟨b4, hb4⟩ : ∃ b, W13.heap.size = b := ⟨_, rfl⟩
                  have lob4 : w.heap.size ≤ b4 := by have := hB.size; omega
                  have db4_b5 : b4 ≠ b5 := by omega
                  rw [hb5] at v5
                  try rw [hb5]
                  rw [hb4] at v4
                  try rw [hb4]
                  have hB := hB.trans (hs.mono hB.size)
                  clear hb4 hb5 hs hk l_b0 l_g l_b1
                  go_loopw [180] (fun i wr => ∃ kn : Int, i = .int .i64 kn ∧ Below w.heap.size w wr ∧ Var wr b0 [.int .u8 (e0 : Int), .int .u8 (e1 : Int), .int .u8 (e2 : Int)] ∧ Var wr g [.int .i64 x0, .int .i64 x1, .int .i64 x2, .int .i64 x3, .int .i64 x4, .int .i64 x5, .int .i64 x6, .int .i64 x7, .int .i64 x8, .int .i64 x9, .int .i64 x10, .int .i64 x11] ∧ Var wr b1 [.int .i64 pi, .int .i64 pj, .int .i64 pk, .int .i64 pd] ∧ Var wr b4 [.int .i64 t1, .int .i64 t2, .int .i64 t3] ∧ ((kn = 0 ∧ Var wr b5 [.int .i64 0, .int .i64 0, .int .i64 0, .int .i64 0, .int .i64 0, .int .i64 0, .int .i64 0, .int .i64 0, .int .i64 0]) ∨ (kn = 1 ∧ Var wr b5 [.int .i64 m0, .int .i64 m1, .int .i64 m2, .int .i64 0, .int .i64 0, .int .i64 0, .int .i64 0, .int .i64 0, .int .i64 0] ∧ z0 = true) ∨ (kn = 2 ∧ Var wr b5 [.int .i64 m0, .int .i64 m1, .int .i64 m2, .int .i64 m3, .int .i64 m4, .int .i64 m5, .int .i64 0, .int .i64 0, .int .i64 0] ∧ z0 = true ∧ z1 = true) ∨ (kn = 3 ∧ Var wr b5 [.int .i64 m0, .int .i64 m1, .int .i64 m2, .int .i64 m3, .int .i64 m4, .int .i64 m5, .int .i64 m6, .int .i64 m7, .int .i64 m8] ∧ z0 = true ∧ z1 = true ∧ z2 = true))) (fun i _ => 3 - (intOf i).toNat)
                  case atStart => exact ⟨0, rfl, hB, v0, hv, v1, v4, .inl ⟨rfl, v5⟩⟩
                  case round =>
                    clear hB v0 hv v1 v4 v5
                    obtain ⟨kn, rfl, hB, v0, hv, v1, v4, hcs⟩ := hrel
                    rcases hcs with ⟨rfl, v5⟩ | ⟨rfl, v5, hb0⟩ | ⟨rfl, v5, hb0, hb1⟩ | ⟨rfl, v5, hb0, hb1, hb2⟩
                    ·
                      skip
                      go_wp2_with fail
                      refine wp_region_dag (by kernel_rfl) ?_
                      intro W15 hk
                      have hs := hk
                      have v0 := v0.below hs
                      have hv := hv.below hs
                      have v1 := v1.below hs
                      have v4 := v4.below hs
                      have v5 := v5.below hs
                      have hB := hB.trans (hs.mono hB.size)
                      clear hs hk
                      refine dagO (fun _ => trivial) 9 ?hn (fun X => ⟨#[.slice (some ad) len cap, .agg #[.int .u8 (e0 : Int), .int .u8 (e1 : Int), .int .u8 (e2 : Int)], undef, .pointer (some ⟨b0, 0, none⟩), u4, .bool true, .slice (some ⟨g, 0, none⟩) 4 c, .pointer (some ⟨b1, 0, none⟩), .bool true, .pointer (some ⟨b2, 0, none⟩), .bool true, .pointer (some ⟨b3, 0, none⟩), .bool true, .bool false, undef, u15, .pointer (some ⟨b4, 0, none⟩), .pointer (some ⟨b5, 0, none⟩), .int .i64 0, undef, undef, .bool true, .slice (some ad) len cap, .slice (some ad) len cap, .int .i64 (len : Int), .int .i64 16, .slice (some ad) 16 cap, .slice (some ⟨g, 0, none⟩) 4 c, X3_ 10, X3_ 0, X3_ 1, X3_ 2, X3_ 3, X3_ 4, X3_ 5, X3_ 6, X3_ 7, X3_ 8, X3_ 9, .agg #[.int .i64 pi, .int .i64 pj, .int .i64 pk, .int .i64 pd], X3_ 12, X4_ 10, X4_ 0, X4_ 1, X4_ 2, X4_ 3, X4_ 4, X4_ 5, X4_ 6, X4_ 7, X4_ 8, X4_ 9, .agg #[.int .i64 pi, .int .i64 pj, .int .i64 pk, .int .i64 pd], X4_ 12, X5_ 10, X5_ 0, X5_ 1, X5_ 2, X5_ 3, X5_ 4, X5_ 5, X5_ 6, X5_ 7, X5_ 8, X5_ 9, .agg #[.int .i64 ni, .int .i64 nj, .int .i64 nk, .int .i64 nd], X5_ 12, X6_ 0, X6_ 1, X6_ 2, X6_ 3, X6_ 4, X6_ 5, X6_ 6, X6_ 7, X6_ 8, X6_ 9, X6_ 10, X6_ 11, X6_ 12, X6_ 13, X6_ 14, X6_ 15, X6_ 16, .bool true, .bool false, .bool false, .bool false, .bool true, .bool true, .bool false, .bool false, .bool false, .bool true, .bool true, .bool false, .bool false, .bool false, undef, undef, undef, undef, undef, undef, X11_ 0, X11_ 1, X11_ 2, X11_ 3, X11_ 4, X11_ 5, X11_ 6, X11_ 7, X11_ 8, X11_ 9, X11_ 10, X11_ 11, X11_ 12, X11_ 13, X11_ 14, X11_ 15, X11_ 16, X11_ 17, X11_ 18, X11_ 19, X11_ 20, X11_ 21, X11_ 22, X11_ 23, X11_ 24, X11_ 25, X11_ 26, X11_ 27, X11_ 28, X11_ 29, X11_ 30, X11_ 31, X11_ 32, X11_ 33, X11_ 34, X11_ 35, X11_ 36, X11_ 37, .bool false, .slice (some ⟨g, 0, none⟩) 4 c, .slice (some ⟨g, 0, none⟩) 3 c, .int .i64 3, .int .i64 3, .bool false, u148, u149, u150, u151, u152, u153, u154, u155, u156, u157, u158, u159, u160, u161, u162, u163, .pointer (some ⟨b0, 0, none⟩), .int .u8 (e0 : Int), .int .u8 ((e0 : Int) % 9), .int .i64 ((e0 : Int) % 9), .int .i64 t1, .pointer (some ⟨b0, 1, none⟩), .int .u8 (e1 : Int), .int .u8 ((e1 : Int) % 9), .int .i64 ((e1 : Int) % 9), .int .i64 t2, .pointer (some ⟨b0, 2, none⟩), .int .u8 (e2 : Int), .int .u8 ((e2 : Int) % 9), .int .i64 ((e2 : Int) % 9), .int .i64 t3, .agg #[.int .i64 t1, .int .i64 t2, .int .i64 t3], .int .i64 0, .bool true, .int .i64 0, X 0, X 1, X 2, X 3, X 4, X 5, X 6, X 7, u191, u192, u193, u194, u195, u196, u197, undef, undef, undef, undef, undef, undef, undef, undef, undef, undef, undef, undef, undef, undef, undef, undef, undef, undef, undef, undef, undef, undef, undef, undef, undef, undef, undef, undef, undef, undef, undef, undef, undef], []⟩) [.int .i64 0, .slice (some ⟨g, 0, none⟩) 4 c, .int .i64 0, .pointer (some ⟨g, 0, none⟩), .agg #[.int .i64 x0, .int .i64 x1, .int .i64 x2], .agg #[.int .i64 t1, .int .i64 t2, .int .i64 t3], .agg #[.int .i64 m0, .int .i64 m1, .int .i64 m2], .pointer (some ⟨b5, 0, none⟩), undef] [[], [], [], [1, 2], [3], [], [4, 5], [0], [6, 7]] 8 6 b5 0 [.int .i64 0, .int .i64 0, .int .i64 0, .int .i64 0, .int .i64 0, .int .i64 0, .int .i64 0, .int .i64 0, .int .i64 0] [0, 1, 2, 3, 4, 5, 6, 7] W15 (by kernel_rfl) (by kernel_rfl) (by kernel_rfl) (by kernel_rfl) (of_decide_eq_true (by kernel_rfl)) v5 ?op ?into ?fin (upd (upd (upd (upd (upd (upd (upd (upd (fun _ => undef) 0 (u183)) 1 (u184)) 2 (u185)) 3 (u186)) 4 (u187)) 5 (u188)) 6 (u189)) 7 (u190)) _ _ (by kernel_rfl) (of_decide_eq_true (by kernel_rfl)) (of_decide_eq_true (by kernel_rfl))
                      case hn => rfl
                      case op =>
                        repeat' first | exact Each.nil | refine Each.cons ?_ ?_
                        all_goals intro X w7 H hb hD h
                        · refine tv rfl (by rfl) ?_ (by exact h w7 (Below.refl _ _))
                          go_simp <;> first | rfl | (simp only [IntWalk.i64_left]; rfl) | (simp only [IntWalk.i64_left, *]; done) | (simp only [IntWalk.i64_left, *]; rfl)
                        · refine tv rfl (by rfl) ?_ (by exact h w7 (Below.refl _ _))
                          go_simp <;> first | rfl | (simp only [IntWalk.i64_left]; rfl) | (simp only [IntWalk.i64_left, *]; done) | (simp only [IntWalk.i64_left, *]; rfl)
                        · refine tv rfl (by rfl) ?_ (by exact h w7 (Below.refl _ _))
                          go_simp <;> first | rfl | (simp only [IntWalk.i64_left]; rfl) | (simp only [IntWalk.i64_left, *]; done) | (simp only [IntWalk.i64_left, *]; rfl)
                        · have e1_ : X 1 = _ := hD 1 (by decide) (by decide)
                          have e2_ : X 2 = _ := hD 2 (by decide) (by decide)
                          refine tv rfl (by simp only [e1_, e2_]; rfl) ?_ (by exact h w7 (Below.refl _ _))
                          simp only [e1_, e2_]; go_simp <;> first | rfl | (simp only [IntWalk.i64_left]; rfl) | (simp only [IntWalk.i64_left, *]; done) | (simp only [IntWalk.i64_left, *]; rfl)
                        · have e3_ : X 3 = _ := hD 3 (by decide) (by decide)
                          have hv_ := hb.var hv (by simp; first | omega | (intro h; exact absurd h (by first | assumption | (apply Ne.symm; assumption))))
                          have c0_ := hv_.at 0 rfl
                          have c1_ := hv_.at 1 rfl
                          have c2_ := hv_.at 2 rfl
                          refine tv rfl (by simp only [e3_]; rfl) ?_ (by exact h w7 (Below.refl _ _))
                          simp only [e3_]; go_simp <;> first | rfl | (simp only [IntWalk.i64_left]; rfl) | (simp only [IntWalk.i64_left, *]; done) | (simp only [IntWalk.i64_left, *]; rfl)
                        · have hv_ := hb.var v4 (by simp; first | omega | (intro h; exact absurd h (by first | assumption | (apply Ne.symm; assumption))))
                          have c0_ := hv_.at 0 rfl
                          have c1_ := hv_.at 1 rfl
                          have c2_ := hv_.at 2 rfl
                          refine tv rfl (by rfl) ?_ (by exact h w7 (Below.refl _ _))
                          go_simp <;> first | rfl | (simp only [IntWalk.i64_left]; rfl) | (simp only [IntWalk.i64_left, *]; done) | (simp only [IntWalk.i64_left, *]; rfl)
                        · have e4_ : X 4 = _ := hD 4 (by decide) (by decide)
                          have e5_ : X 5 = _ := hD 5 (by decide) (by decide)
                          refine wpOp_call (i := 6) (f := 15) (args := #[.agg #[.int .i64 x0, .int .i64 x1, .int .i64 x2], .agg #[.int .i64 t1, .int .i64 t2, .int .i64 t3]]) 189 rfl rfl (by simp only [e4_, e5_]; rfl) (by simp only [e4_, e5_]; go_simp) ?_
                          refine (cA0.out _).mono ?_
                          rintro e w8 ⟨rfl, hk⟩
                          exact ⟨_, rfl, h w8 hk⟩
                        · have e0_ : X 0 = _ := hD 0 (by decide) (by decide)
                          refine tv rfl (by simp only [e0_]; rfl) ?_ (by exact h w7 (Below.refl _ _))
                          simp only [e0_]; go_simp <;> first | rfl | (simp only [IntWalk.i64_left]; rfl) | (simp only [IntWalk.i64_left, *]; done) | (simp only [IntWalk.i64_left, *]; rfl)
                      case into =>
                        intro X w7 H hC hD h
                        have e6_ : X 6 = _ := hD 6 (by decide) (by decide)
                        have e7_ : X 7 = _ := hD 7 (by decide) (by decide)
                        replace hC : Var w7 b5 [.int .i64 0, .int .i64 0, .int .i64 0, .int .i64 0, .int .i64 0, .int .i64 0, .int .i64 0, .int .i64 0, .int .i64 0] := hC
                        have c0_ := hC.at 0 rfl
                        have z0_ := hC.fr 0 (by simp)
                        have c1_ := hC.at 1 rfl
                        have z1_ := hC.fr 1 (by simp)
                        have c2_ := hC.at 2 rfl
                        have z2_ := hC.fr 2 (by simp)
                        have c3_ := hC.at 3 rfl
                        have z3_ := hC.fr 3 (by simp)
                        have c4_ := hC.at 4 rfl
                        have z4_ := hC.fr 4 (by simp)
                        have c5_ := hC.at 5 rfl
                        have z5_ := hC.fr 5 (by simp)
                        have c6_ := hC.at 6 rfl
                        have z6_ := hC.fr 6 (by simp)
                        have c7_ := hC.at 7 rfl
                        have z7_ := hC.fr 7 (by simp)
                        have c8_ := hC.at 8 rfl
                        have z8_ := hC.fr 8 (by simp)
                        refine wpOp_run rfl ?_
                        replace h : H _ (putC b5 w7 0 (vc (.agg #[.int .i64 m0, .int .i64 m1, .int .i64 m2]))) := h
                        simp only [e6_, e7_] at h ⊢
                        go_simp
                        exact h
                      case fin =>
                        intro X0_ WF0 hX hE hV
                        replace hV : Var WF0 b5 [.int .i64 m0, .int .i64 m1, .int .i64 m2, .int .i64 0, .int .i64 0, .int .i64 0, .int .i64 0, .int .i64 0, .int .i64 0] := hV
                        have f_ := fun i (h1 : i < 9) (h2 : i ≠ 8) => hX i h1 h2
                        have e0_ : X0_ 0 = _ := hX 0 (by decide) (by decide)
                        have e1_ : X0_ 1 = _ := hX 1 (by decide) (by decide)
                        have e2_ : X0_ 2 = _ := hX 2 (by decide) (by decide)
                        have e3_ : X0_ 3 = _ := hX 3 (by decide) (by decide)
                        have e4_ : X0_ 4 = _ := hX 4 (by decide) (by decide)
                        have e5_ : X0_ 5 = _ := hX 5 (by decide) (by decide)
                        have e6_ : X0_ 6 = _ := hX 6 (by decide) (by decide)
                        have e7_ : X0_ 7 = _ := hX 7 (by decide) (by decide)
                        have v0 := hE.var v0 (by simp; first | omega | (intro h; exact absurd h (by first | assumption | (apply Ne.symm; assumption))))
                        have hv := hE.var hv (by simp; first | omega | (intro h; exact absurd h (by first | assumption | (apply Ne.symm; assumption))))
                        have v1 := hE.var v1 (by simp; first | omega | (intro h; exact absurd h (by first | assumption | (apply Ne.symm; assumption))))
                        have v4 := hE.var v4 (by simp; first | omega | (intro h; exact absurd h (by first | assumption | (apply Ne.symm; assumption))))
                        have hB := hB.trans (hE.low (B := w.heap.size) hB.size (by intro b hb; simp at hb; subst hb; assumption))
                        clear v5 f_ hX hE
                        have v5 := hV
                        clear hV
                        simp only [e0_, e1_, e2_, e3_, e4_, e5_, e6_, e7_]
                        clear e0_ e1_ e2_ e3_ e4_ e5_ e6_ e7_
                        cases z0
                        ·
                          skip
                          have cb5_0 := v5.at 0 rfl
                          have cb5_1 := v5.at 1 rfl
                          have cb5_2 := v5.at 2 rfl
                          have cb5_3 := v5.at 3 rfl
                          have cb5_4 := v5.at 4 rfl
                          have cb5_5 := v5.at 5 rfl
                          have cb5_6 := v5.at 6 rfl
                          have cb5_7 := v5.at 7 rfl
                          have cb5_8 := v5.at 8 rfl
                          go_wp2_with fail
                          refine (cI0.out _).mono ?_
                          rintro e W16 ⟨rfl, hk⟩
                          have hs := hk
                          have v0 := v0.below hs
                          have hv := hv.below hs
                          have v1 := v1.below hs
                          have v4 := v4.below hs
                          have v5 := v5.below hs
                          have hB := hB.trans (hs.mono hB.size)
                          clear cb5_0 cb5_1 cb5_2 cb5_3 cb5_4 cb5_5 cb5_6 cb5_7 cb5_8 hs hk
                          go_wp2_with fail
                          have hBs := hB.size
                          go_ret
                          exact ⟨rfl, by repeat (first | exact hB | refine Below.alloc ?_ (by first | omega | (simp; try omega)) _ | refine Below.setCell ?_ (by first | omega | (simp; try omega)) _)⟩
                        ·
                          skip
                          have cb5_0 := v5.at 0 rfl
                          have cb5_1 := v5.at 1 rfl
                          have cb5_2 := v5.at 2 rfl
                          have cb5_3 := v5.at 3 rfl
                          have cb5_4 := v5.at 4 rfl
                          have cb5_5 := v5.at 5 rfl
                          have cb5_6 := v5.at 6 rfl
                          have cb5_7 := v5.at 7 rfl
                          have cb5_8 := v5.at 8 rfl
                          go_wp2_with fail
                          refine (cI0.out _).mono ?_
                          rintro e W16 ⟨rfl, hk⟩
                          have hs := hk
                          have v0 := v0.below hs
                          have hv := hv.below hs
                          have v1 := v1.below hs
                          have v4 := v4.below hs
                          have v5 := v5.below hs
                          have hB := hB.trans (hs.mono hB.size)
                          clear cb5_0 cb5_1 cb5_2 cb5_3 cb5_4 cb5_5 cb5_6 cb5_7 cb5_8 hs hk
                          go_wp2_with fail
                          have hBs := hB.size
                          go_roundw
                          case rel => first | exact ⟨1, by simp, by repeat (first | exact hB | refine Below.alloc ?_ (by first | omega | (simp; try omega)) _ | refine Below.setCell ?_ (by first | omega | (simp; try omega)) _), v0, hv, v1, v4, .inr (.inl ⟨rfl, v5, by first | assumption | trivial⟩)⟩ | ((repeat apply Exists.intro); refine ⟨⟨1, by simp, by repeat (first | exact hB | refine Below.alloc ?_ (by first | omega | (simp; try omega)) _ | refine Below.setCell ?_ (by first | omega | (simp; try omega)) _), v0, hv, v1, v4, .inr (.inl ⟨rfl, v5, by first | assumption | trivial⟩)⟩, rfl⟩)
                          case measure => simp [intOf]
                    ·
                      skip
                      go_wp2_with fail
                      refine wp_region_dag (by kernel_rfl) ?_
                      intro W15 hk
                      have hs := hk
                      have v0 := v0.below hs
                      have hv := hv.below hs
                      have v1 := v1.below hs
                      have v4 := v4.below hs
                      have v5 := v5.below hs
                      have hB := hB.trans (hs.mono hB.size)
                      clear hs hk
                      refine dagO (fun _ => trivial) 9 ?hn (fun X => ⟨#[.slice (some ad) len cap, .agg #[.int .u8 (e0 : Int), .int .u8 (e1 : Int), .int .u8 (e2 : Int)], undef, .pointer (some ⟨b0, 0, none⟩), u4, .bool true, .slice (some ⟨g, 0, none⟩) 4 c, .pointer (some ⟨b1, 0, none⟩), .bool true, .pointer (some ⟨b2, 0, none⟩), .bool true, .pointer (some ⟨b3, 0, none⟩), .bool true, .bool false, undef, u15, .pointer (some ⟨b4, 0, none⟩), .pointer (some ⟨b5, 0, none⟩), .int .i64 1, undef, undef, .bool true, .slice (some ad) len cap, .slice (some ad) len cap, .int .i64 (len : Int), .int .i64 16, .slice (some ad) 16 cap, .slice (some ⟨g, 0, none⟩) 4 c, X3_ 10, X3_ 0, X3_ 1, X3_ 2, X3_ 3, X3_ 4, X3_ 5, X3_ 6, X3_ 7, X3_ 8, X3_ 9, .agg #[.int .i64 pi, .int .i64 pj, .int .i64 pk, .int .i64 pd], X3_ 12, X4_ 10, X4_ 0, X4_ 1, X4_ 2, X4_ 3, X4_ 4, X4_ 5, X4_ 6, X4_ 7, X4_ 8, X4_ 9, .agg #[.int .i64 pi, .int .i64 pj, .int .i64 pk, .int .i64 pd], X4_ 12, X5_ 10, X5_ 0, X5_ 1, X5_ 2, X5_ 3, X5_ 4, X5_ 5, X5_ 6, X5_ 7, X5_ 8, X5_ 9, .agg #[.int .i64 ni, .int .i64 nj, .int .i64 nk, .int .i64 nd], X5_ 12, X6_ 0, X6_ 1, X6_ 2, X6_ 3, X6_ 4, X6_ 5, X6_ 6, X6_ 7, X6_ 8, X6_ 9, X6_ 10, X6_ 11, X6_ 12, X6_ 13, X6_ 14, X6_ 15, X6_ 16, .bool true, .bool false, .bool false, .bool false, .bool true, .bool true, .bool false, .bool false, .bool false, .bool true, .bool true, .bool false, .bool false, .bool false, undef, undef, undef, undef, undef, undef, X11_ 0, X11_ 1, X11_ 2, X11_ 3, X11_ 4, X11_ 5, X11_ 6, X11_ 7, X11_ 8, X11_ 9, X11_ 10, X11_ 11, X11_ 12, X11_ 13, X11_ 14, X11_ 15, X11_ 16, X11_ 17, X11_ 18, X11_ 19, X11_ 20, X11_ 21, X11_ 22, X11_ 23, X11_ 24, X11_ 25, X11_ 26, X11_ 27, X11_ 28, X11_ 29, X11_ 30, X11_ 31, X11_ 32, X11_ 33, X11_ 34, X11_ 35, X11_ 36, X11_ 37, .bool false, .slice (some ⟨g, 0, none⟩) 4 c, .slice (some ⟨g, 0, none⟩) 3 c, .int .i64 3, .int .i64 3, .bool false, u148, u149, u150, u151, u152, u153, u154, u155, u156, u157, u158, u159, u160, u161, u162, u163, .pointer (some ⟨b0, 0, none⟩), .int .u8 (e0 : Int), .int .u8 ((e0 : Int) % 9), .int .i64 ((e0 : Int) % 9), .int .i64 t1, .pointer (some ⟨b0, 1, none⟩), .int .u8 (e1 : Int), .int .u8 ((e1 : Int) % 9), .int .i64 ((e1 : Int) % 9), .int .i64 t2, .pointer (some ⟨b0, 2, none⟩), .int .u8 (e2 : Int), .int .u8 ((e2 : Int) % 9), .int .i64 ((e2 : Int) % 9), .int .i64 t3, .agg #[.int .i64 t1, .int .i64 t2, .int .i64 t3], .int .i64 1, .bool true, .int .i64 1, X 0, X 1, X 2, X 3, X 4, X 5, X 6, X 7, u191, u192, u193, u194, u195, u196, u197, undef, undef, undef, undef, undef, undef, undef, undef, undef, undef, undef, undef, undef, undef, undef, undef, undef, undef, undef, undef, undef, undef, undef, undef, undef, undef, undef, undef, undef, undef, undef, undef, undef], []⟩) [.int .i64 1, .slice (some ⟨g, 0, none⟩) 4 c, .int .i64 1, .pointer (some ⟨g, 3, none⟩), .agg #[.int .i64 x3, .int .i64 x4, .int .i64 x5], .agg #[.int .i64 t1, .int .i64 t2, .int .i64 t3], .agg #[.int .i64 m3, .int .i64 m4, .int .i64 m5], .pointer (some ⟨b5, 3, none⟩), undef] [[], [], [], [1, 2], [3], [], [4, 5], [0], [6, 7]] 8 6 b5 3 [.int .i64 m0, .int .i64 m1, .int .i64 m2, .int .i64 0, .int .i64 0, .int .i64 0, .int .i64 0, .int .i64 0, .int .i64 0] [0, 1, 2, 3, 4, 5, 6, 7] W15 (by kernel_rfl) (by kernel_rfl) (by kernel_rfl) (by kernel_rfl) (of_decide_eq_true (by kernel_rfl)) v5 ?op ?into ?fin (upd (upd (upd (upd (upd (upd (upd (upd (fun _ => undef) 0 (u183)) 1 (u184)) 2 (u185)) 3 (u186)) 4 (u187)) 5 (u188)) 6 (u189)) 7 (u190)) _ _ (by kernel_rfl) (of_decide_eq_true (by kernel_rfl)) (of_decide_eq_true (by kernel_rfl))
                      case hn => rfl
                      case op =>
                        repeat' first | exact Each.nil | refine Each.cons ?_ ?_
                        all_goals intro X w7 H hb hD h
                        · refine tv rfl (by rfl) ?_ (by exact h w7 (Below.refl _ _))
                          go_simp <;> first | rfl | (simp only [IntWalk.i64_left]; rfl) | (simp only [IntWalk.i64_left, *]; done) | (simp only [IntWalk.i64_left, *]; rfl)
                        · refine tv rfl (by rfl) ?_ (by exact h w7 (Below.refl _ _))
                          go_simp <;> first | rfl | (simp only [IntWalk.i64_left]; rfl) | (simp only [IntWalk.i64_left, *]; done) | (simp only [IntWalk.i64_left, *]; rfl)
                        · refine tv rfl (by rfl) ?_ (by exact h w7 (Below.refl _ _))
                          go_simp <;> first | rfl | (simp only [IntWalk.i64_left]; rfl) | (simp only [IntWalk.i64_left, *]; done) | (simp only [IntWalk.i64_left, *]; rfl)
                        · have e1_ : X 1 = _ := hD 1 (by decide) (by decide)
                          have e2_ : X 2 = _ := hD 2 (by decide) (by decide)
                          refine tv rfl (by simp only [e1_, e2_]; rfl) ?_ (by exact h w7 (Below.refl _ _))
                          simp only [e1_, e2_]; go_simp <;> first | rfl | (simp only [IntWalk.i64_left]; rfl) | (simp only [IntWalk.i64_left, *]; done) | (simp only [IntWalk.i64_left, *]; rfl)
                        · have e3_ : X 3 = _ := hD 3 (by decide) (by decide)
                          have hv_ := hb.var hv (by simp; first | omega | (intro h; exact absurd h (by first | assumption | (apply Ne.symm; assumption))))
                          have c0_ := hv_.at 3 rfl
                          have c1_ := hv_.at 4 rfl
                          have c2_ := hv_.at 5 rfl
                          refine tv rfl (by simp only [e3_]; rfl) ?_ (by exact h w7 (Below.refl _ _))
                          simp only [e3_]; go_simp <;> first | rfl | (simp only [IntWalk.i64_left]; rfl) | (simp only [IntWalk.i64_left, *]; done) | (simp only [IntWalk.i64_left, *]; rfl)
                        · have hv_ := hb.var v4 (by simp; first | omega | (intro h; exact absurd h (by first | assumption | (apply Ne.symm; assumption))))
                          have c0_ := hv_.at 0 rfl
                          have c1_ := hv_.at 1 rfl
                          have c2_ := hv_.at 2 rfl
                          refine tv rfl (by rfl) ?_ (by exact h w7 (Below.refl _ _))
                          go_simp <;> first | rfl | (simp only [IntWalk.i64_left]; rfl) | (simp only [IntWalk.i64_left, *]; done) | (simp only [IntWalk.i64_left, *]; rfl)
                        · have e4_ : X 4 = _ := hD 4 (by decide) (by decide)
                          have e5_ : X 5 = _ := hD 5 (by decide) (by decide)
                          refine wpOp_call (i := 6) (f := 15) (args := #[.agg #[.int .i64 x3, .int .i64 x4, .int .i64 x5], .agg #[.int .i64 t1, .int .i64 t2, .int .i64 t3]]) 189 rfl rfl (by simp only [e4_, e5_]; rfl) (by simp only [e4_, e5_]; go_simp) ?_
                          refine (cA1.out _).mono ?_
                          rintro e w8 ⟨rfl, hk⟩
                          exact ⟨_, rfl, h w8 hk⟩
                        · have e0_ : X 0 = _ := hD 0 (by decide) (by decide)
                          refine tv rfl (by simp only [e0_]; rfl) ?_ (by exact h w7 (Below.refl _ _))
                          simp only [e0_]; go_simp <;> first | rfl | (simp only [IntWalk.i64_left]; rfl) | (simp only [IntWalk.i64_left, *]; done) | (simp only [IntWalk.i64_left, *]; rfl)
                      case into =>
                        intro X w7 H hC hD h
                        have e6_ : X 6 = _ := hD 6 (by decide) (by decide)
                        have e7_ : X 7 = _ := hD 7 (by decide) (by decide)
                        replace hC : Var w7 b5 [.int .i64 m0, .int .i64 m1, .int .i64 m2, .int .i64 0, .int .i64 0, .int .i64 0, .int .i64 0, .int .i64 0, .int .i64 0] := hC
                        have c0_ := hC.at 0 rfl
                        have z0_ := hC.fr 0 (by simp)
                        have c1_ := hC.at 1 rfl
                        have z1_ := hC.fr 1 (by simp)
                        have c2_ := hC.at 2 rfl
                        have z2_ := hC.fr 2 (by simp)
                        have c3_ := hC.at 3 rfl
                        have z3_ := hC.fr 3 (by simp)
                        have c4_ := hC.at 4 rfl
                        have z4_ := hC.fr 4 (by simp)
                        have c5_ := hC.at 5 rfl
                        have z5_ := hC.fr 5 (by simp)
                        have c6_ := hC.at 6 rfl
                        have z6_ := hC.fr 6 (by simp)
                        have c7_ := hC.at 7 rfl
                        have z7_ := hC.fr 7 (by simp)
                        have c8_ := hC.at 8 rfl
                        have z8_ := hC.fr 8 (by simp)
                        refine wpOp_run rfl ?_
                        replace h : H _ (putC b5 w7 3 (vc (.agg #[.int .i64 m3, .int .i64 m4, .int .i64 m5]))) := h
                        simp only [e6_, e7_] at h ⊢
                        go_simp
                        exact h
                      case fin =>
                        intro X1_ WF1 hX hE hV
                        replace hV : Var WF1 b5 [.int .i64 m0, .int .i64 m1, .int .i64 m2, .int .i64 m3, .int .i64 m4, .int .i64 m5, .int .i64 0, .int .i64 0, .int .i64 0] := hV
                        have f_ := fun i (h1 : i < 9) (h2 : i ≠ 8) => hX i h1 h2
                        have e0_ : X1_ 0 = _ := hX 0 (by decide) (by decide)
                        have e1_ : X1_ 1 = _ := hX 1 (by decide) (by decide)
                        have e2_ : X1_ 2 = _ := hX 2 (by decide) (by decide)
                        have e3_ : X1_ 3 = _ := hX 3 (by decide) (by decide)
                        have e4_ : X1_ 4 = _ := hX 4 (by decide) (by decide)
                        have e5_ : X1_ 5 = _ := hX 5 (by decide) (by decide)
                        have e6_ : X1_ 6 = _ := hX 6 (by decide) (by decide)
                        have e7_ : X1_ 7 = _ := hX 7 (by decide) (by decide)
                        have v0 := hE.var v0 (by simp; first | omega | (intro h; exact absurd h (by first | assumption | (apply Ne.symm; assumption))))
                        have hv := hE.var hv (by simp; first | omega | (intro h; exact absurd h (by first | assumption | (apply Ne.symm; assumption))))
                        have v1 := hE.var v1 (by simp; first | omega | (intro h; exact absurd h (by first | assumption | (apply Ne.symm; assumption))))
                        have v4 := hE.var v4 (by simp; first | omega | (intro h; exact absurd h (by first | assumption | (apply Ne.symm; assumption))))
                        have hB := hB.trans (hE.low (B := w.heap.size) hB.size (by intro b hb; simp at hb; subst hb; assumption))
                        clear v5 f_ hX hE
                        have v5 := hV
                        clear hV
                        simp only [e0_, e1_, e2_, e3_, e4_, e5_, e6_, e7_]
                        clear e0_ e1_ e2_ e3_ e4_ e5_ e6_ e7_
                        cases z1
                        ·
                          skip
                          have cb5_0 := v5.at 0 rfl
                          have cb5_1 := v5.at 1 rfl
                          have cb5_2 := v5.at 2 rfl
                          have cb5_3 := v5.at 3 rfl
                          have cb5_4 := v5.at 4 rfl
                          have cb5_5 := v5.at 5 rfl
                          have cb5_6 := v5.at 6 rfl
                          have cb5_7 := v5.at 7 rfl
                          have cb5_8 := v5.at 8 rfl
                          go_wp2_with fail
                          refine (cI1.out _).mono ?_
                          rintro e W16 ⟨rfl, hk⟩
                          have hs := hk
                          have v0 := v0.below hs
                          have hv := hv.below hs
                          have v1 := v1.below hs
                          have v4 := v4.below hs
                          have v5 := v5.below hs
                          have hB := hB.trans (hs.mono hB.size)
                          clear cb5_0 cb5_1 cb5_2 cb5_3 cb5_4 cb5_5 cb5_6 cb5_7 cb5_8 hs hk
                          go_wp2_with fail
                          have hBs := hB.size
                          go_ret
                          exact ⟨rfl, by repeat (first | exact hB | refine Below.alloc ?_ (by first | omega | (simp; try omega)) _ | refine Below.setCell ?_ (by first | omega | (simp; try omega)) _)⟩
                        ·
                          skip
                          have cb5_0 := v5.at 0 rfl
                          have cb5_1 := v5.at 1 rfl
                          have cb5_2 := v5.at 2 rfl
                          have cb5_3 := v5.at 3 rfl
                          have cb5_4 := v5.at 4 rfl
                          have cb5_5 := v5.at 5 rfl
                          have cb5_6 := v5.at 6 rfl
                          have cb5_7 := v5.at 7 rfl
                          have cb5_8 := v5.at 8 rfl
                          go_wp2_with fail
                          refine (cI1.out _).mono ?_
                          rintro e W16 ⟨rfl, hk⟩
                          have hs := hk
                          have v0 := v0.below hs
                          have hv := hv.below hs
                          have v1 := v1.below hs
                          have v4 := v4.below hs
                          have v5 := v5.below hs
                          have hB := hB.trans (hs.mono hB.size)
                          clear cb5_0 cb5_1 cb5_2 cb5_3 cb5_4 cb5_5 cb5_6 cb5_7 cb5_8 hs hk
                          go_wp2_with fail
                          have hBs := hB.size
                          go_roundw
                          case rel => first | exact ⟨2, by simp, by repeat (first | exact hB | refine Below.alloc ?_ (by first | omega | (simp; try omega)) _ | refine Below.setCell ?_ (by first | omega | (simp; try omega)) _), v0, hv, v1, v4, .inr (.inr (.inl ⟨rfl, v5, by first | assumption | trivial, by first | assumption | trivial⟩))⟩ | ((repeat apply Exists.intro); refine ⟨⟨2, by simp, by repeat (first | exact hB | refine Below.alloc ?_ (by first | omega | (simp; try omega)) _ | refine Below.setCell ?_ (by first | omega | (simp; try omega)) _), v0, hv, v1, v4, .inr (.inr (.inl ⟨rfl, v5, by first | assumption | trivial, by first | assumption | trivial⟩))⟩, rfl⟩)
                          case measure => simp [intOf]
                    ·
                      skip
                      go_wp2_with fail
                      refine wp_region_dag (by kernel_rfl) ?_
                      intro W15 hk
                      have hs := hk
                      have v0 := v0.below hs
                      have hv := hv.below hs
                      have v1 := v1.below hs
                      have v4 := v4.below hs
                      have v5 := v5.below hs
                      have hB := hB.trans (hs.mono hB.size)
                      clear hs hk
                      refine dagO (fun _ => trivial) 9 ?hn (fun X => ⟨#[.slice (some ad) len cap, .agg #[.int .u8 (e0 : Int), .int .u8 (e1 : Int), .int .u8 (e2 : Int)], undef, .pointer (some ⟨b0, 0, none⟩), u4, .bool true, .slice (some ⟨g, 0, none⟩) 4 c, .pointer (some ⟨b1, 0, none⟩), .bool true, .pointer (some ⟨b2, 0, none⟩), .bool true, .pointer (some ⟨b3, 0, none⟩), .bool true, .bool false, undef, u15, .pointer (some ⟨b4, 0, none⟩), .pointer (some ⟨b5, 0, none⟩), .int .i64 2, undef, undef, .bool true, .slice (some ad) len cap, .slice (some ad) len cap, .int .i64 (len : Int), .int .i64 16, .slice (some ad) 16 cap, .slice (some ⟨g, 0, none⟩) 4 c, X3_ 10, X3_ 0, X3_ 1, X3_ 2, X3_ 3, X3_ 4, X3_ 5, X3_ 6, X3_ 7, X3_ 8, X3_ 9, .agg #[.int .i64 pi, .int .i64 pj, .int .i64 pk, .int .i64 pd], X3_ 12, X4_ 10, X4_ 0, X4_ 1, X4_ 2, X4_ 3, X4_ 4, X4_ 5, X4_ 6, X4_ 7, X4_ 8, X4_ 9, .agg #[.int .i64 pi, .int .i64 pj, .int .i64 pk, .int .i64 pd], X4_ 12, X5_ 10, X5_ 0, X5_ 1, X5_ 2, X5_ 3, X5_ 4, X5_ 5, X5_ 6, X5_ 7, X5_ 8, X5_ 9, .agg #[.int .i64 ni, .int .i64 nj, .int .i64 nk, .int .i64 nd], X5_ 12, X6_ 0, X6_ 1, X6_ 2, X6_ 3, X6_ 4, X6_ 5, X6_ 6, X6_ 7, X6_ 8, X6_ 9, X6_ 10, X6_ 11, X6_ 12, X6_ 13, X6_ 14, X6_ 15, X6_ 16, .bool true, .bool false, .bool false, .bool false, .bool true, .bool true, .bool false, .bool false, .bool false, .bool true, .bool true, .bool false, .bool false, .bool false, undef, undef, undef, undef, undef, undef, X11_ 0, X11_ 1, X11_ 2, X11_ 3, X11_ 4, X11_ 5, X11_ 6, X11_ 7, X11_ 8, X11_ 9, X11_ 10, X11_ 11, X11_ 12, X11_ 13, X11_ 14, X11_ 15, X11_ 16, X11_ 17, X11_ 18, X11_ 19, X11_ 20, X11_ 21, X11_ 22, X11_ 23, X11_ 24, X11_ 25, X11_ 26, X11_ 27, X11_ 28, X11_ 29, X11_ 30, X11_ 31, X11_ 32, X11_ 33, X11_ 34, X11_ 35, X11_ 36, X11_ 37, .bool false, .slice (some ⟨g, 0, none⟩) 4 c, .slice (some ⟨g, 0, none⟩) 3 c, .int .i64 3, .int .i64 3, .bool false, u148, u149, u150, u151, u152, u153, u154, u155, u156, u157, u158, u159, u160, u161, u162, u163, .pointer (some ⟨b0, 0, none⟩), .int .u8 (e0 : Int), .int .u8 ((e0 : Int) % 9), .int .i64 ((e0 : Int) % 9), .int .i64 t1, .pointer (some ⟨b0, 1, none⟩), .int .u8 (e1 : Int), .int .u8 ((e1 : Int) % 9), .int .i64 ((e1 : Int) % 9), .int .i64 t2, .pointer (some ⟨b0, 2, none⟩), .int .u8 (e2 : Int), .int .u8 ((e2 : Int) % 9), .int .i64 ((e2 : Int) % 9), .int .i64 t3, .agg #[.int .i64 t1, .int .i64 t2, .int .i64 t3], .int .i64 2, .bool true, .int .i64 2, X 0, X 1, X 2, X 3, X 4, X 5, X 6, X 7, u191, u192, u193, u194, u195, u196, u197, undef, undef, undef, undef, undef, undef, undef, undef, undef, undef, undef, undef, undef, undef, undef, undef, undef, undef, undef, undef, undef, undef, undef, undef, undef, undef, undef, undef, undef, undef, undef, undef, undef], []⟩) [.int .i64 2, .slice (some ⟨g, 0, none⟩) 4 c, .int .i64 2, .pointer (some ⟨g, 6, none⟩), .agg #[.int .i64 x6, .int .i64 x7, .int .i64 x8], .agg #[.int .i64 t1, .int .i64 t2, .int .i64 t3], .agg #[.int .i64 m6, .int .i64 m7, .int .i64 m8], .pointer (some ⟨b5, 6, none⟩), undef] [[], [], [], [1, 2], [3], [], [4, 5], [0], [6, 7]] 8 6 b5 6 [.int .i64 m0, .int .i64 m1, .int .i64 m2, .int .i64 m3, .int .i64 m4, .int .i64 m5, .int .i64 0, .int .i64 0, .int .i64 0] [0, 1, 2, 3, 4, 5, 6, 7] W15 (by kernel_rfl) (by kernel_rfl) (by kernel_rfl) (by kernel_rfl) (of_decide_eq_true (by kernel_rfl)) v5 ?op ?into ?fin (upd (upd (upd (upd (upd (upd (upd (upd (fun _ => undef) 0 (u183)) 1 (u184)) 2 (u185)) 3 (u186)) 4 (u187)) 5 (u188)) 6 (u189)) 7 (u190)) _ _ (by kernel_rfl) (of_decide_eq_true (by kernel_rfl)) (of_decide_eq_true (by kernel_rfl))
                      case hn => rfl
                      case op =>
                        repeat' first | exact Each.nil | refine Each.cons ?_ ?_
                        all_goals intro X w7 H hb hD h
                        · refine tv rfl (by rfl) ?_ (by exact h w7 (Below.refl _ _))
                          go_simp <;> first | rfl | (simp only [IntWalk.i64_left]; rfl) | (simp only [IntWalk.i64_left, *]; done) | (simp only [IntWalk.i64_left, *]; rfl)
                        · refine tv rfl (by rfl) ?_ (by exact h w7 (Below.refl _ _))
                          go_simp <;> first | rfl | (simp only [IntWalk.i64_left]; rfl) | (simp only [IntWalk.i64_left, *]; done) | (simp only [IntWalk.i64_left, *]; rfl)
                        · refine tv rfl (by rfl) ?_ (by exact h w7 (Below.refl _ _))
                          go_simp <;> first | rfl | (simp only [IntWalk.i64_left]; rfl) | (simp only [IntWalk.i64_left, *]; done) | (simp only [IntWalk.i64_left, *]; rfl)
                        · have e1_ : X 1 = _ := hD 1 (by decide) (by decide)
                          have e2_ : X 2 = _ := hD 2 (by decide) (by decide)
                          refine tv rfl (by simp only [e1_, e2_]; rfl) ?_ (by exact h w7 (Below.refl _ _))
                          simp only [e1_, e2_]; go_simp <;> first | rfl | (simp only [IntWalk.i64_left]; rfl) | (simp only [IntWalk.i64_left, *]; done) | (simp only [IntWalk.i64_left, *]; rfl)
                        · have e3_ : X 3 = _ := hD 3 (by decide) (by decide)
                          have hv_ := hb.var hv (by simp; first | omega | (intro h; exact absurd h (by first | assumption | (apply Ne.symm; assumption))))
                          have c0_ := hv_.at 6 rfl
                          have c1_ := hv_.at 7 rfl
                          have c2_ := hv_.at 8 rfl
                          refine tv rfl (by simp only [e3_]; rfl) ?_ (by exact h w7 (Below.refl _ _))
                          simp only [e3_]; go_simp <;> first | rfl | (simp only [IntWalk.i64_left]; rfl) | (simp only [IntWalk.i64_left, *]; done) | (simp only [IntWalk.i64_left, *]; rfl)
                        · have hv_ := hb.var v4 (by simp; first | omega | (intro h; exact absurd h (by first | assumption | (apply Ne.symm; assumption))))
                          have c0_ := hv_.at 0 rfl
                          have c1_ := hv_.at 1 rfl
                          have c2_ := hv_.at 2 rfl
                          refine tv rfl (by rfl) ?_ (by exact h w7 (Below.refl _ _))
                          go_simp <;> first | rfl | (simp only [IntWalk.i64_left]; rfl) | (simp only [IntWalk.i64_left, *]; done) | (simp only [IntWalk.i64_left, *]; rfl)
                        · have e4_ : X 4 = _ := hD 4 (by decide) (by decide)
                          have e5_ : X 5 = _ := hD 5 (by decide) (by decide)
                          refine wpOp_call (i := 6) (f := 15) (args := #[.agg #[.int .i64 x6, .int .i64 x7, .int .i64 x8], .agg #[.int .i64 t1, .int .i64 t2, .int .i64 t3]]) 189 rfl rfl (by simp only [e4_, e5_]; rfl) (by simp only [e4_, e5_]; go_simp) ?_
                          refine (cA2.out _).mono ?_
                          rintro e w8 ⟨rfl, hk⟩
                          exact ⟨_, rfl, h w8 hk⟩
                        · have e0_ : X 0 = _ := hD 0 (by decide) (by decide)
                          refine tv rfl (by simp only [e0_]; rfl) ?_ (by exact h w7 (Below.refl _ _))
                          simp only [e0_]; go_simp <;> first | rfl | (simp only [IntWalk.i64_left]; rfl) | (simp only [IntWalk.i64_left, *]; done) | (simp only [IntWalk.i64_left, *]; rfl)
                      case into =>
                        intro X w7 H hC hD h
                        have e6_ : X 6 = _ := hD 6 (by decide) (by decide)
                        have e7_ : X 7 = _ := hD 7 (by decide) (by decide)
                        replace hC : Var w7 b5 [.int .i64 m0, .int .i64 m1, .int .i64 m2, .int .i64 m3, .int .i64 m4, .int .i64 m5, .int .i64 0, .int .i64 0, .int .i64 0] := hC
                        have c0_ := hC.at 0 rfl
                        have z0_ := hC.fr 0 (by simp)
                        have c1_ := hC.at 1 rfl
                        have z1_ := hC.fr 1 (by simp)
                        have c2_ := hC.at 2 rfl
                        have z2_ := hC.fr 2 (by simp)
                        have c3_ := hC.at 3 rfl
                        have z3_ := hC.fr 3 (by simp)
                        have c4_ := hC.at 4 rfl
                        have z4_ := hC.fr 4 (by simp)
                        have c5_ := hC.at 5 rfl
                        have z5_ := hC.fr 5 (by simp)
                        have c6_ := hC.at 6 rfl
                        have z6_ := hC.fr 6 (by simp)
                        have c7_ := hC.at 7 rfl
                        have z7_ := hC.fr 7 (by simp)
                        have c8_ := hC.at 8 rfl
                        have z8_ := hC.fr 8 (by simp)
                        refine wpOp_run rfl ?_
                        replace h : H _ (putC b5 w7 6 (vc (.agg #[.int .i64 m6, .int .i64 m7, .int .i64 m8]))) := h
                        simp only [e6_, e7_] at h ⊢
                        go_simp
                        exact h
                      case fin =>
                        intro X2_ WF2 hX hE hV
                        replace hV : Var WF2 b5 [.int .i64 m0, .int .i64 m1, .int .i64 m2, .int .i64 m3, .int .i64 m4, .int .i64 m5, .int .i64 m6, .int .i64 m7, .int .i64 m8] := hV
                        have f_ := fun i (h1 : i < 9) (h2 : i ≠ 8) => hX i h1 h2
                        have e0_ : X2_ 0 = _ := hX 0 (by decide) (by decide)
                        have e1_ : X2_ 1 = _ := hX 1 (by decide) (by decide)
                        have e2_ : X2_ 2 = _ := hX 2 (by decide) (by decide)
                        have e3_ : X2_ 3 = _ := hX 3 (by decide) (by decide)
                        have e4_ : X2_ 4 = _ := hX 4 (by decide) (by decide)
                        have e5_ : X2_ 5 = _ := hX 5 (by decide) (by decide)
                        have e6_ : X2_ 6 = _ := hX 6 (by decide) (by decide)
                        have e7_ : X2_ 7 = _ := hX 7 (by decide) (by decide)
                        have v0 := hE.var v0 (by simp; first | omega | (intro h; exact absurd h (by first | assumption | (apply Ne.symm; assumption))))
                        have hv := hE.var hv (by simp; first | omega | (intro h; exact absurd h (by first | assumption | (apply Ne.symm; assumption))))
                        have v1 := hE.var v1 (by simp; first | omega | (intro h; exact absurd h (by first | assumption | (apply Ne.symm; assumption))))
                        have v4 := hE.var v4 (by simp; first | omega | (intro h; exact absurd h (by first | assumption | (apply Ne.symm; assumption))))
                        have hB := hB.trans (hE.low (B := w.heap.size) hB.size (by intro b hb; simp at hb; subst hb; assumption))
                        clear v5 f_ hX hE
                        have v5 := hV
                        clear hV
                        simp only [e0_, e1_, e2_, e3_, e4_, e5_, e6_, e7_]
                        clear e0_ e1_ e2_ e3_ e4_ e5_ e6_ e7_
                        cases z2
                        ·
                          skip
                          have cb5_0 := v5.at 0 rfl
                          have cb5_1 := v5.at 1 rfl
                          have cb5_2 := v5.at 2 rfl
                          have cb5_3 := v5.at 3 rfl
                          have cb5_4 := v5.at 4 rfl
                          have cb5_5 := v5.at 5 rfl
                          have cb5_6 := v5.at 6 rfl
                          have cb5_7 := v5.at 7 rfl
                          have cb5_8 := v5.at 8 rfl
                          go_wp2_with fail
                          refine (cI2.out _).mono ?_
                          rintro e W16 ⟨rfl, hk⟩
                          have hs := hk
                          have v0 := v0.below hs
                          have hv := hv.below hs
                          have v1 := v1.below hs
                          have v4 := v4.below hs
                          have v5 := v5.below hs
                          have hB := hB.trans (hs.mono hB.size)
                          clear cb5_0 cb5_1 cb5_2 cb5_3 cb5_4 cb5_5 cb5_6 cb5_7 cb5_8 hs hk
                          go_wp2_with fail
                          have hBs := hB.size
                          go_ret
                          exact ⟨rfl, by repeat (first | exact hB | refine Below.alloc ?_ (by first | omega | (simp; try omega)) _ | refine Below.setCell ?_ (by first | omega | (simp; try omega)) _)⟩
                        ·
                          skip
                          have cb5_0 := v5.at 0 rfl
                          have cb5_1 := v5.at 1 rfl
                          have cb5_2 := v5.at 2 rfl
                          have cb5_3 := v5.at 3 rfl
                          have cb5_4 := v5.at 4 rfl
                          have cb5_5 := v5.at 5 rfl
                          have cb5_6 := v5.at 6 rfl
                          have cb5_7 := v5.at 7 rfl
                          have cb5_8 := v5.at 8 rfl
                          go_wp2_with fail
                          refine (cI2.out _).mono ?_
                          rintro e W16 ⟨rfl, hk⟩
                          have hs := hk
                          have v0 := v0.below hs
                          have hv := hv.below hs
                          have v1 := v1.below hs
                          have v4 := v4.below hs
                          have v5 := v5.below hs
                          have hB := hB.trans (hs.mono hB.size)
                          clear cb5_0 cb5_1 cb5_2 cb5_3 cb5_4 cb5_5 cb5_6 cb5_7 cb5_8 hs hk
                          go_wp2_with fail
                          have hBs := hB.size
                          go_roundw
                          case rel => first | exact ⟨3, by simp, by repeat (first | exact hB | refine Below.alloc ?_ (by first | omega | (simp; try omega)) _ | refine Below.setCell ?_ (by first | omega | (simp; try omega)) _), v0, hv, v1, v4, .inr (.inr (.inr (⟨rfl, v5, by first | assumption | trivial, by first | assumption | trivial, by first | assumption | trivial⟩)))⟩ | ((repeat apply Exists.intro); refine ⟨⟨3, by simp, by repeat (first | exact hB | refine Below.alloc ?_ (by first | omega | (simp; try omega)) _ | refine Below.setCell ?_ (by first | omega | (simp; try omega)) _), v0, hv, v1, v4, .inr (.inr (.inr (⟨rfl, v5, by first | assumption | trivial, by first | assumption | trivial, by first | assumption | trivial⟩)))⟩, rfl⟩)
                          case measure => simp [intOf]
                    ·
                      skip
                      skip
                      have cb5_0 := v5.at 0 rfl
                      have cb5_1 := v5.at 1 rfl
                      have cb5_2 := v5.at 2 rfl
                      have cb5_3 := v5.at 3 rfl
                      have cb5_4 := v5.at 4 rfl
                      have cb5_5 := v5.at 5 rfl
                      have cb5_6 := v5.at 6 rfl
                      have cb5_7 := v5.at 7 rfl
                      have cb5_8 := v5.at 8 rfl
                      go_wp2_with fail
                      refine (cT4.out (by first | rfl | trivial) (by first | rfl | trivial) (by first | rfl | trivial) _).mono ?_
                      rintro e W15 ⟨rfl, hk⟩
                      try simp only [Pl]
                      have hs := hk
                      have v0 := v0.below hs
                      have hv := hv.below hs
                      have v1 := v1.below hs
                      have v4 := v4.below hs
                      have v5 := v5.below hs
                      have hB := hB.trans (hs.mono hB.size)
                      clear cb5_0 cb5_1 cb5_2 cb5_3 cb5_4 cb5_5 cb5_6 cb5_7 cb5_8 hs hk
                      go_wp2_with fail
                      refine wp_region_dag (by kernel_rfl) ?_
                      intro W16 hk
                      have l_b5 := v5.1
                      have hs : Below W15.heap.size W15 W16 := Below.trans (by repeat (first | exact Below.refl _ _ | refine Below.alloc ?_ (by first | omega | (simp; try omega)) _ | refine Below.setCell ?_ (by first | omega | (simp; try omega)) _)) (hk.mono (by first | omega | (simp; try omega)))
                      have v0 := v0.below hs
                      have hv := hv.below hs
                      have v1 := v1.below hs
                      have v4 := v4.below hs
                      have v5 := v5.below hs
                      have v6 : Var W16 (W15.heap.size) [.int .i64 pi, .int .i64 pj, .int .i64 pk, .int .i64 (wrap64 (pd + q))] := Var.low ⟨by first | omega | (simp; try omega), by simp [Cel, go_sem]⟩ hk (by first | omega | (simp; try omega))
                      obtain ⟨b6, hb6⟩ : ∃ b, W15.heap.size = b := ⟨_, rfl⟩
                      have lob6 : w.heap.size ≤ b6 := by have := hB.size; omega
                      have db5_b6 : b5 ≠ b6 := by omega
                      rw [hb6] at v6
                      try rw [hb6]
                      have hB := hB.trans (hs.mono hB.size)
                      clear hb6 hs hk l_b5
                      refine dagV (fun _ => trivial) 24 ?hn (fun X => ⟨#[.slice (some ad) len cap, .agg #[.int .u8 (e0 : Int), .int .u8 (e1 : Int), .int .u8 (e2 : Int)], undef, .pointer (some ⟨b0, 0, none⟩), X 23, .bool true, .slice (some ⟨g, 0, none⟩) 4 c, .pointer (some ⟨b1, 0, none⟩), .bool true, .pointer (some ⟨b2, 0, none⟩), .bool true, .pointer (some ⟨b3, 0, none⟩), .bool true, .bool false, undef, u15, .pointer (some ⟨b4, 0, none⟩), .pointer (some ⟨b5, 0, none⟩), u18, .pointer (some ⟨b6, 0, none⟩), .bool true, .bool true, .slice (some ad) len cap, .slice (some ad) len cap, .int .i64 (len : Int), .int .i64 16, .slice (some ad) 16 cap, .slice (some ⟨g, 0, none⟩) 4 c, X3_ 10, X3_ 0, X3_ 1, X3_ 2, X3_ 3, X3_ 4, X3_ 5, X3_ 6, X3_ 7, X3_ 8, X3_ 9, .agg #[.int .i64 pi, .int .i64 pj, .int .i64 pk, .int .i64 pd], X3_ 12, X4_ 10, X4_ 0, X4_ 1, X4_ 2, X4_ 3, X4_ 4, X4_ 5, X4_ 6, X4_ 7, X4_ 8, X4_ 9, .agg #[.int .i64 pi, .int .i64 pj, .int .i64 pk, .int .i64 pd], X4_ 12, X5_ 10, X5_ 0, X5_ 1, X5_ 2, X5_ 3, X5_ 4, X5_ 5, X5_ 6, X5_ 7, X5_ 8, X5_ 9, .agg #[.int .i64 ni, .int .i64 nj, .int .i64 nk, .int .i64 nd], X5_ 12, X6_ 0, X6_ 1, X6_ 2, X6_ 3, X6_ 4, X6_ 5, X6_ 6, X6_ 7, X6_ 8, X6_ 9, X6_ 10, X6_ 11, X6_ 12, X6_ 13, X6_ 14, X6_ 15, X6_ 16, .bool true, .bool false, .bool false, .bool false, .bool true, .bool true, .bool false, .bool false, .bool false, .bool true, .bool true, .bool false, .bool false, .bool false, undef, undef, undef, undef, undef, undef, X11_ 0, X11_ 1, X11_ 2, X11_ 3, X11_ 4, X11_ 5, X11_ 6, X11_ 7, X11_ 8, X11_ 9, X11_ 10, X11_ 11, X11_ 12, X11_ 13, X11_ 14, X11_ 15, X11_ 16, X11_ 17, X11_ 18, X11_ 19, X11_ 20, X11_ 21, X11_ 22, X11_ 23, X11_ 24, X11_ 25, X11_ 26, X11_ 27, X11_ 28, X11_ 29, X11_ 30, X11_ 31, X11_ 32, X11_ 33, X11_ 34, X11_ 35, X11_ 36, X11_ 37, .bool false, .slice (some ⟨g, 0, none⟩) 4 c, .slice (some ⟨g, 0, none⟩) 3 c, .int .i64 3, .int .i64 3, .bool false, u148, u149, u150, u151, u152, u153, u154, u155, u156, u157, u158, u159, u160, u161, u162, u163, .pointer (some ⟨b0, 0, none⟩), .int .u8 (e0 : Int), .int .u8 ((e0 : Int) % 9), .int .i64 ((e0 : Int) % 9), .int .i64 t1, .pointer (some ⟨b0, 1, none⟩), .int .u8 (e1 : Int), .int .u8 ((e1 : Int) % 9), .int .i64 ((e1 : Int) % 9), .int .i64 t2, .pointer (some ⟨b0, 2, none⟩), .int .u8 (e2 : Int), .int .u8 ((e2 : Int) % 9), .int .i64 ((e2 : Int) % 9), .int .i64 t3, .agg #[.int .i64 t1, .int .i64 t2, .int .i64 t3], .int .i64 3, .bool false, u182, u183, u184, u185, u186, u187, u188, u189, u190, u191, u192, u193, u194, u195, u196, u197, .tuple #[.agg #[.int .i64 pi, .int .i64 pj, .int .i64 pk, .int .i64 (wrap64 (pd + q))], .bool true], .pointer (some ⟨b5, 0, none⟩), .agg #[.int .i64 m0, .int .i64 m1, .int .i64 m2], .pointer (some ⟨b5, 3, none⟩), .agg #[.int .i64 m3, .int .i64 m4, .int .i64 m5], .pointer (some ⟨b5, 6, none⟩), .agg #[.int .i64 m6, .int .i64 m7, .int .i64 m8], .tuple #[.agg #[.int .i64 pi, .int .i64 pj, .int .i64 pk, .int .i64 (wrap64 (pd + q))], .bool true], .agg #[.int .i64 pi, .int .i64 pj, .int .i64 pk, .int .i64 (wrap64 (pd + q))], .bool true, X 0, X 1, X 2, X 3, X 4, X 5, X 6, X 7, X 8, X 9, X 10, X 11, X 12, X 13, X 14, X 15, X 16, X 17, X 18, X 19, X 20, X 21, X 22], []⟩) [(0, 0, 0), (0, 0, 0), (0, 0, 0), (0, 0, 0), (0, 0, 0), (0, 0, 0), (0, 0, 0), (0, 0, 0), (0, 0, 0), (0, 0, 0), (0, 0, 0), (0, 0, 0), (0, 0, 0), (0, 0, 0), (0, 0, 0), (0, 0, 0), (0, 0, 0), (0, 0, 0), (0, 0, 0), (0, 0, 0), (0, 0, 0), (0, 0, 0), (0, 0, 0), (0, 0, 0)] (fun _ => []) [.val (.bool true), .val (.bool true), .val (.bool true), .val (.bool true), .val (.bool true), .val (.pointer (some ⟨b6, 0, none⟩)), .val (.agg #[.int .i64 pi, .int .i64 pj, .int .i64 pk]), .val (.pointer (some ⟨b1, 0, none⟩)), .val (.agg #[.int .i64 pi, .int .i64 pj, .int .i64 pk]), .val (.bool true), .val (.bool true), .val (.bool true), .val (.pointer (some ⟨b6, 3, none⟩)), .val (.int .i64 (wrap64 (pd + q))), .val (.pointer (some ⟨b1, 3, none⟩)), .val (.int .i64 pd), .val (.pointer (some ⟨b1, 0, none⟩)), .val (.agg #[.int .i64 pi, .int .i64 pj, .int .i64 pk]), .val (.agg #[.int .i64 t1, .int .i64 t2, .int .i64 t3]), .val (.int .i64 q), .val (.int .i64 (wrap64 (pd + q))), .val (.bool true), .val (.bool true), .val (.bool true)] [[], [0], [1], [1, 2], [3], [4], [4, 5], [4], [4, 7], [4, 6, 8], [4, 9], [10], [11], [11, 12], [11], [11, 14], [11], [11, 16], [11], [11, 17, 18], [11, 15, 19], [11, 13, 20], [11, 21], [22]] [0, 1, 2, 3, 4, 5, 6, 7, 8, 9, 10, 11, 12, 13, 14, 15, 16, 17, 18, 19, 20, 21, 22, 23] [] [] [] (fun _ => 0) W16 (by kernel_rfl) (by kernel_rfl) (by kernel_rfl) (by kernel_rfl) (by kernel_rfl) ?dist ?olds ?op ?al ?st ?into ?fin (upd (fun _ => undef) 23 (u4)) _ _ (by kernel_rfl) (of_decide_eq_true (by kernel_rfl)) (of_decide_eq_true (by kernel_rfl))
                      case hn => rfl
                      case dist => intro i hi j hj; simp at hi hj; try omega
                      case olds => exact nofun
                      case op =>
                        repeat' first | exact Each.nil | refine Each.cons ?_ ?_
                        all_goals intro X w7 H hb hD h
                        · refine tv rfl (by rfl) ?_ (by exact h _ w7 rfl (Below.refl _ _))
                          go_simp <;> first | rfl | (simp only [IntWalk.i64_left]; rfl) | (simp only [IntWalk.i64_left, *]; done) | (simp only [IntWalk.i64_left, *]; rfl)
                        · have e0_ : X 0 = _ := hD 0 (by decide) rfl
                          refine tv rfl (by simp only [e0_]; rfl) ?_ (by exact h _ w7 rfl (Below.refl _ _))
                          simp only [e0_]; go_simp <;> first | rfl | (simp only [IntWalk.i64_left]; rfl) | (simp only [IntWalk.i64_left, *]; done) | (simp only [IntWalk.i64_left, *]; rfl)
                        · have e1_ : X 1 = _ := hD 1 (by decide) rfl
                          refine tv rfl (by simp only [e1_]; rfl) ?_ (by exact h _ w7 rfl (Below.refl _ _))
                          simp only [e1_]; go_simp <;> first | rfl | (simp only [IntWalk.i64_left]; rfl) | (simp only [IntWalk.i64_left, *]; done) | (simp only [IntWalk.i64_left, *]; rfl)
                        · have e1_ : X 1 = _ := hD 1 (by decide) rfl
                          have e2_ : X 2 = _ := hD 2 (by decide) rfl
                          refine tv rfl (by simp only [e1_, e2_]; rfl) ?_ (by exact h _ w7 rfl (Below.refl _ _))
                          simp only [e1_, e2_]; go_simp <;> first | rfl | (simp only [IntWalk.i64_left]; rfl) | (simp only [IntWalk.i64_left, *]; done) | (simp only [IntWalk.i64_left, *]; rfl)
                        · have e3_ : X 3 = _ := hD 3 (by decide) rfl
                          refine tv rfl (by simp only [e3_]; rfl) ?_ (by exact h _ w7 rfl (Below.refl _ _))
                          simp only [e3_]; go_simp <;> first | rfl | (simp only [IntWalk.i64_left]; rfl) | (simp only [IntWalk.i64_left, *]; done) | (simp only [IntWalk.i64_left, *]; rfl)
                        · have e4_ : X 4 = _ := hD 4 (by decide) rfl
                          refine tv rfl (by simp only [e4_]; rfl) ?_ (by exact h _ w7 rfl (Below.refl _ _))
                          simp only [e4_]; go_simp <;> first | rfl | (simp only [IntWalk.i64_left]; rfl) | (simp only [IntWalk.i64_left, *]; done) | (simp only [IntWalk.i64_left, *]; rfl)
                        · have e4_ : X 4 = _ := hD 4 (by decide) rfl
                          have e5_ : X 5 = _ := hD 5 (by decide) rfl
                          have hv := v6.below (show Keep [] _ _ from hb).nil
                          have c0_ := hv.at 0 rfl
                          have c1_ := hv.at 1 rfl
                          have c2_ := hv.at 2 rfl
                          refine tv rfl (by simp only [e4_, e5_]; rfl) ?_ (by exact h _ w7 rfl (Below.refl _ _))
                          simp only [e4_, e5_]; go_simp <;> first | rfl | (simp only [IntWalk.i64_left]; rfl) | (simp only [IntWalk.i64_left, *]; done) | (simp only [IntWalk.i64_left, *]; rfl)
                        · have e4_ : X 4 = _ := hD 4 (by decide) rfl
                          refine tv rfl (by simp only [e4_]; rfl) ?_ (by exact h _ w7 rfl (Below.refl _ _))
                          simp only [e4_]; go_simp <;> first | rfl | (simp only [IntWalk.i64_left]; rfl) | (simp only [IntWalk.i64_left, *]; done) | (simp only [IntWalk.i64_left, *]; rfl)
                        · have e4_ : X 4 = _ := hD 4 (by decide) rfl
                          have e7_ : X 7 = _ := hD 7 (by decide) rfl
                          have hv := v1.below (show Keep [] _ _ from hb).nil
                          have c0_ := hv.at 0 rfl
                          have c1_ := hv.at 1 rfl
                          have c2_ := hv.at 2 rfl
                          refine tv rfl (by simp only [e4_, e7_]; rfl) ?_ (by exact h _ w7 rfl (Below.refl _ _))
                          simp only [e4_, e7_]; go_simp <;> first | rfl | (simp only [IntWalk.i64_left]; rfl) | (simp only [IntWalk.i64_left, *]; done) | (simp only [IntWalk.i64_left, *]; rfl)
                        · have e4_ : X 4 = _ := hD 4 (by decide) rfl
                          have e6_ : X 6 = _ := hD 6 (by decide) rfl
                          have e8_ : X 8 = _ := hD 8 (by decide) rfl
                          refine tv rfl (by simp only [e4_, e6_, e8_]; rfl) ?_ (by exact h _ w7 rfl (Below.refl _ _))
                          simp only [e4_, e6_, e8_]; go_simp <;> first | rfl | (simp only [IntWalk.i64_left]; rfl) | (simp only [IntWalk.i64_left, *]; done) | (simp only [IntWalk.i64_left, *]; rfl)
                        · have e4_ : X 4 = _ := hD 4 (by decide) rfl
                          have e9_ : X 9 = _ := hD 9 (by decide) rfl
                          refine tv rfl (by simp only [e4_, e9_]; rfl) ?_ (by exact h _ w7 rfl (Below.refl _ _))
                          simp only [e4_, e9_]; go_simp <;> first | rfl | (simp only [IntWalk.i64_left]; rfl) | (simp only [IntWalk.i64_left, *]; done) | (simp only [IntWalk.i64_left, *]; rfl)
                        · have e10_ : X 10 = _ := hD 10 (by decide) rfl
                          refine tv rfl (by simp only [e10_]; rfl) ?_ (by exact h _ w7 rfl (Below.refl _ _))
                          simp only [e10_]; go_simp <;> first | rfl | (simp only [IntWalk.i64_left]; rfl) | (simp only [IntWalk.i64_left, *]; done) | (simp only [IntWalk.i64_left, *]; rfl)
                        · have e11_ : X 11 = _ := hD 11 (by decide) rfl
                          refine tv rfl (by simp only [e11_]; rfl) ?_ (by exact h _ w7 rfl (Below.refl _ _))
                          simp only [e11_]; go_simp <;> first | rfl | (simp only [IntWalk.i64_left]; rfl) | (simp only [IntWalk.i64_left, *]; done) | (simp only [IntWalk.i64_left, *]; rfl)
                        · have e11_ : X 11 = _ := hD 11 (by decide) rfl
                          have e12_ : X 12 = _ := hD 12 (by decide) rfl
                          have hv := v6.below (show Keep [] _ _ from hb).nil
                          have c0_ := hv.at 3 rfl
                          refine tv rfl (by simp only [e11_, e12_]; rfl) ?_ (by exact h _ w7 rfl (Below.refl _ _))
                          simp only [e11_, e12_]; go_simp <;> first | rfl | (simp only [IntWalk.i64_left]; rfl) | (simp only [IntWalk.i64_left, *]; done) | (simp only [IntWalk.i64_left, *]; rfl)
                        · have e11_ : X 11 = _ := hD 11 (by decide) rfl
                          refine tv rfl (by simp only [e11_]; rfl) ?_ (by exact h _ w7 rfl (Below.refl _ _))
                          simp only [e11_]; go_simp <;> first | rfl | (simp only [IntWalk.i64_left]; rfl) | (simp only [IntWalk.i64_left, *]; done) | (simp only [IntWalk.i64_left, *]; rfl)
                        · have e11_ : X 11 = _ := hD 11 (by decide) rfl
                          have e14_ : X 14 = _ := hD 14 (by decide) rfl
                          have hv := v1.below (show Keep [] _ _ from hb).nil
                          have c0_ := hv.at 3 rfl
                          refine tv rfl (by simp only [e11_, e14_]; rfl) ?_ (by exact h _ w7 rfl (Below.refl _ _))
                          simp only [e11_, e14_]; go_simp <;> first | rfl | (simp only [IntWalk.i64_left]; rfl) | (simp only [IntWalk.i64_left, *]; done) | (simp only [IntWalk.i64_left, *]; rfl)
                        · have e11_ : X 11 = _ := hD 11 (by decide) rfl
                          refine tv rfl (by simp only [e11_]; rfl) ?_ (by exact h _ w7 rfl (Below.refl _ _))
                          simp only [e11_]; go_simp <;> first | rfl | (simp only [IntWalk.i64_left]; rfl) | (simp only [IntWalk.i64_left, *]; done) | (simp only [IntWalk.i64_left, *]; rfl)
                        · have e11_ : X 11 = _ := hD 11 (by decide) rfl
                          have e16_ : X 16 = _ := hD 16 (by decide) rfl
                          have hv := v1.below (show Keep [] _ _ from hb).nil
                          have c0_ := hv.at 0 rfl
                          have c1_ := hv.at 1 rfl
                          have c2_ := hv.at 2 rfl
                          refine tv rfl (by simp only [e11_, e16_]; rfl) ?_ (by exact h _ w7 rfl (Below.refl _ _))
                          simp only [e11_, e16_]; go_simp <;> first | rfl | (simp only [IntWalk.i64_left]; rfl) | (simp only [IntWalk.i64_left, *]; done) | (simp only [IntWalk.i64_left, *]; rfl)
                        · have e11_ : X 11 = _ := hD 11 (by decide) rfl
                          have hv := v4.below (show Keep [] _ _ from hb).nil
                          have c0_ := hv.at 0 rfl
                          have c1_ := hv.at 1 rfl
                          have c2_ := hv.at 2 rfl
                          refine tv rfl (by simp only [e11_]; rfl) ?_ (by exact h _ w7 rfl (Below.refl _ _))
                          simp only [e11_]; go_simp <;> first | rfl | (simp only [IntWalk.i64_left]; rfl) | (simp only [IntWalk.i64_left, *]; done) | (simp only [IntWalk.i64_left, *]; rfl)
                        · have e11_ : X 11 = _ := hD 11 (by decide) rfl
                          have e17_ : X 17 = _ := hD 17 (by decide) rfl
                          have e18_ : X 18 = _ := hD 18 (by decide) rfl
                          refine wpOp_call (i := 19) (f := 19) (args := #[.agg #[.int .i64 pi, .int .i64 pj, .int .i64 pk], .agg #[.int .i64 t1, .int .i64 t2, .int .i64 t3]]) 227 rfl rfl (by simp only [e11_, e17_, e18_]; rfl) (by simp only [e11_, e17_, e18_]; go_simp) ?_
                          refine (cD.out _).mono ?_
                          rintro e w8 ⟨rfl, hk⟩
                          exact ⟨_, rfl, h _ w8 rfl hk⟩
                        · have e11_ : X 11 = _ := hD 11 (by decide) rfl
                          have e15_ : X 15 = _ := hD 15 (by decide) rfl
                          have e19_ : X 19 = _ := hD 19 (by decide) rfl
                          refine tv rfl (by simp only [e11_, e15_, e19_]; rfl) ?_ (by exact h _ w7 rfl (Below.refl _ _))
                          simp only [e11_, e15_, e19_]; go_simp <;> first | rfl | (simp only [IntWalk.i64_left]; rfl) | (simp only [IntWalk.i64_left, *]; done) | (simp only [IntWalk.i64_left, *]; rfl)
                        · have e11_ : X 11 = _ := hD 11 (by decide) rfl
                          have e13_ : X 13 = _ := hD 13 (by decide) rfl
                          have e20_ : X 20 = _ := hD 20 (by decide) rfl
                          refine tv rfl (by simp only [e11_, e13_, e20_]; rfl) ?_ (by exact h _ w7 rfl (Below.refl _ _))
                          simp only [e11_, e13_, e20_]; go_simp <;> first | rfl | (simp only [IntWalk.i64_left]; rfl) | (simp only [IntWalk.i64_left, *]; done) | (simp only [IntWalk.i64_left, *]; rfl)
                        · have e11_ : X 11 = _ := hD 11 (by decide) rfl
                          have e21_ : X 21 = _ := hD 21 (by decide) rfl
                          refine tv rfl (by simp only [e11_, e21_]; rfl) ?_ (by exact h _ w7 rfl (Below.refl _ _))
                          simp only [e11_, e21_]; go_simp <;> first | rfl | (simp only [IntWalk.i64_left]; rfl) | (simp only [IntWalk.i64_left, *]; done) | (simp only [IntWalk.i64_left, *]; rfl)
                        · have e22_ : X 22 = _ := hD 22 (by decide) rfl
                          refine tv rfl (by simp only [e22_]; rfl) ?_ (by exact h _ w7 rfl (Below.refl _ _))
                          simp only [e22_]; go_simp <;> first | rfl | (simp only [IntWalk.i64_left]; rfl) | (simp only [IntWalk.i64_left, *]; done) | (simp only [IntWalk.i64_left, *]; rfl)
                      case al => exact Each.nil
                      case st => exact Each.nil
                      case into => exact Each.nil
                      case fin =>
                        intro X29_ W17 hI
                        have hE : Keep [] W16 W17 := hI.keep
                        have e23_ : X29_ 23 = _ := hI.fact 23 (by decide) rfl rfl
                        have v0 := v0.below hE.nil
                        have hv := hv.below hE.nil
                        have v1 := v1.below hE.nil
                        have v4 := v4.below hE.nil
                        have v5 := v5.below hE.nil
                        have v6 := v6.below hE.nil
                        have hB := hB.trans (hE.nil.mono hB.size)
                        simp only [e23_]
                        clear e23_ hI hE
                        go_wp2_with fail
                        have hBs := hB.size
                        go_ret
                        exact ⟨rfl, by repeat (first | exact hB | refine Below.alloc ?_ (by first | omega | (simp; try omega)) _ | refine Below.setCell ?_ (by first | omega | (simp; try omega)) _)⟩
end Go.Proofs.Ytblnpelbklfloaa
