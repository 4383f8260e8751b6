/- prim where it is true, and sanity. -/
import Derived.Test.YtblnpelbklfloaaVPn
namespace Go.Proofs.Ytblnpelbklfloaa
open Go.RowKit

set_option maxRecDepth 100000 in
set_option maxHeartbeats 2000000 in
theorem prim_yes (x y z i j k d : Int) (hx : I64 x) (hy : I64 y) (hz : I64 z) (hi : Hid (x.tdiv (dv3 x y z : Int) = i)) (hj : Hid (y.tdiv (dv3 x y z : Int) = j)) (hl : Hid (z.tdiv (dv3 x y z : Int) = k)) (hd : Hid ((dv3 x y z : Int) = d)) (w : World) : Calls Try.prog 26 #[V x y z, V i j k, .int .i64 d] w (Gives w (.bool true)) := by
  unfold V
  go_enter Try.func26, Try.ntmps26
  have hB := Below.refl w.heap.size w
  go_wp2_with fail
  refine (prim_p x y z hx hy hz _).mono ?_
  rintro e W1 ⟨rfl, hk⟩
  rw [hi.out, hj.out, hl.out, hd.out]
  try simp only [V]
  have hs : Below w.heap.size w W1 := Below.trans (by repeat (first | exact Below.refl _ _ | refine Below.alloc ?_ (by first | omega | (simp; try omega)) _ | refine Below.setCell ?_ (by first | omega | (simp; try omega)) _)) (hk.mono (by first | omega | (simp; try omega)))
  have v0 : Var W1 (w.heap.size) [.int .i64 x, .int .i64 y, .int .i64 z] := Var.low ⟨by first | omega | (simp; try omega), by simp [Cel, go_sem]⟩ hk (by first | omega | (simp; try omega))
  have v1 : Var W1 (w.heap.size + 1) [.int .i64 i, .int .i64 j, .int .i64 k] := Var.low ⟨by first | omega | (simp; try omega), by simp [Cel, go_sem]⟩ hk (by first | omega | (simp; try omega))
  obtain ⟨b1, hb1⟩ : ∃ b, w.heap.size + 1 = b := ⟨_, rfl⟩
  have lob1 : w.heap.size ≤ b1 := by have := hB.size; omega
  obtain ⟨b0, hb0⟩ : ∃ b, w.heap.size = b := ⟨_, rfl⟩
  have lob0 : w.heap.size ≤ b0 := by have := hB.size; omega
  rw [hb1] at v1
  try rw [hb1]
  rw [hb0] at v0
  try rw [hb0]
  have hB := hB.trans (hs.mono hB.size)
  clear hb0 hb1 hs hk
  have cb1_0 := v1.at 0 rfl
  have ab1_0_1 : ∀ o0, (W1.alloc o0).cell? ⟨b1, 0, none⟩ = some (.int .i64 i) := fun o0 => (v1.allocs1 o0).at 0 rfl
  have cb1_1 := v1.at 1 rfl
  have ab1_1_1 : ∀ o0, (W1.alloc o0).cell? ⟨b1, 1, none⟩ = some (.int .i64 j) := fun o0 => (v1.allocs1 o0).at 1 rfl
  have cb1_2 := v1.at 2 rfl
  have ab1_2_1 : ∀ o0, (W1.alloc o0).cell? ⟨b1, 2, none⟩ = some (.int .i64 k) := fun o0 => (v1.allocs1 o0).at 2 rfl
  go_wp2_with fail
  have hBs := hB.size
  go_ret
  exact ⟨rfl, by repeat (first | exact hB | refine Below.alloc ?_ (by first | omega | (simp; try omega)) _ | refine Below.setCell ?_ (by first | omega | (simp; try omega)) _)⟩


set_option maxRecDepth 100000 in
set_option maxHeartbeats 16000000 in
theorem sanity_true  (w : World) : Calls Try.prog 10 #[] w (Gives w (.bool true)) := by
  go_enter Try.func10, Try.ntmps10
  have hB := Below.refl w.heap.size w
  go_wp2_with fail
  refine (vec_l 1 0 0 _).mono ?_
  rintro e W1 ⟨rfl, hk⟩
  try simp only [V]
  have hs := hk
  have hB := hB.trans (hs.mono hB.size)
  clear hs hk
  go_wp2_with fail
  refine (vec_l 0 1 0 _).mono ?_
  rintro e W2 ⟨rfl, hk⟩
  try simp only [V]
  have hs := hk
  have hB := hB.trans (hs.mono hB.size)
  clear hs hk
  go_wp2_with fail
  refine (vec_l 0 0 1 _).mono ?_
  rintro e W3 ⟨rfl, hk⟩
  try simp only [V]
  have hs := hk
  have hB := hB.trans (hs.mono hB.size)
  clear hs hk
  go_wp2_with fail
  refine wp_region_dag (by kernel_rfl) ?_
  intro W4 hk
  have hs : Below W3.heap.size W3 W4 := Below.trans (by repeat (first | exact Below.refl _ _ | refine Below.alloc ?_ (by first | omega | (simp; try omega)) _ | refine Below.setCell ?_ (by first | omega | (simp; try omega)) _)) (hk.mono (by first | omega | (simp; try omega)))
  have v0 : Var W4 (W3.heap.size) [.int .i64 1, .int .i64 0, .int .i64 0] := Var.low ⟨by first | omega | (simp; try omega), by simp [Cel, go_sem]⟩ hk (by first | omega | (simp; try omega))
  have v1 : Var W4 (W3.heap.size + 1) [.int .i64 0, .int .i64 1, .int .i64 0] := Var.low ⟨by first | omega | (simp; try omega), by simp [Cel, go_sem]⟩ hk (by first | omega | (simp; try omega))
  have v2 : Var W4 (W3.heap.size + 1 + 1) [.int .i64 0, .int .i64 0, .int .i64 1] := Var.low ⟨by first | omega | (simp; try omega), by simp [Cel, go_sem]⟩ hk (by first | omega | (simp; try omega))
  obtain ⟨b2, hb2⟩ : ∃ b, W3.heap.size + 1 + 1 = b := ⟨_, rfl⟩
  have lob2 : w.heap.size ≤ b2 := by have := hB.size; omega
  obtain ⟨b1, hb1⟩ : ∃ b, W3.heap.size + 1 = b := ⟨_, rfl⟩
  have lob1 : w.heap.size ≤ b1 := by have := hB.size; omega
  obtain ⟨b0, hb0⟩ : ∃ b, W3.heap.size = b := ⟨_, rfl⟩
  have lob0 : w.heap.size ≤ b0 := by have := hB.size; omega
  rw [hb2] at v2
  try rw [hb2]
  rw [hb1] at v1
  try rw [hb1]
  rw [hb0] at v0
  try rw [hb0]
  have hB := hB.trans (hs.mono hB.size)
  clear hb0 hb1 hb2 hs hk
  refine dagV (fun _ => trivial) 30 ?hn (fun X => ⟨#[.bool false, .pointer (some ⟨b0, 0, none⟩), .pointer (some ⟨b1, 0, none⟩), .pointer (some ⟨b2, 0, none⟩), X 29, undef, undef, undef, undef, undef, undef, undef, undef, undef, undef, undef, .agg #[.int .i64 1, .int .i64 0, .int .i64 0], .agg #[.int .i64 0, .int .i64 1, .int .i64 0], .agg #[.int .i64 0, .int .i64 0, .int .i64 1], X 0, X 1, X 2, X 3, X 4, X 5, X 6, X 7, X 8, X 9, X 10, X 11, X 12, X 13, X 14, X 15, X 16, X 17, X 18, X 19, X 20, X 21, X 22, X 23, X 24, X 25, X 26, X 27, X 28, undef, undef, undef, undef, undef, undef, undef, undef, undef, undef, undef, undef, undef, undef, undef, undef, undef, undef, undef, undef, undef, undef, undef, undef, undef, undef, undef, undef, undef, undef, undef, undef, undef, undef, undef, undef, undef, undef, undef, undef, undef, undef, undef, undef, undef, undef, undef, undef, undef, undef, undef, undef, undef, undef, undef, undef, undef, undef, undef, undef, undef, undef, undef, undef, undef, undef, undef, undef, undef, undef, undef, undef, undef, undef, undef, undef, undef, undef, undef, undef, undef, undef, undef, undef, undef, undef, undef, undef, undef, undef, undef, undef, undef, undef, undef, undef, undef, undef, undef, undef, undef, undef, undef, undef, undef, undef, undef, undef, undef, undef, undef, undef, undef], []⟩) [(0, 0, 0), (0, 0, 0), (0, 0, 0), (0, 0, 0), (0, 0, 0), (0, 0, 0), (0, 0, 0), (0, 0, 0), (0, 0, 0), (0, 0, 0), (0, 0, 0), (0, 0, 0), (0, 0, 0), (0, 0, 0), (0, 0, 0), (0, 0, 0), (0, 0, 0), (0, 0, 0), (0, 0, 0), (0, 0, 0), (0, 0, 0), (0, 0, 0), (0, 0, 0), (0, 0, 0), (0, 0, 0), (0, 0, 0), (0, 0, 0), (0, 0, 0), (0, 0, 0), (0, 0, 0)] (fun _ => []) [.val (.agg #[.int .i64 24, .int .i64 (-24), .int .i64 0]), .val (.bool true), .val (.bool true), .val (.agg #[.int .i64 0, .int .i64 25, .int .i64 0]), .val (.bool false), .val (.bool true), .val (.bool true), .val (.bool true), .val (.agg #[.int .i64 1, .int .i64 0, .int .i64 0]), .val (.agg #[.int .i64 0, .int .i64 1, .int .i64 0]), .val (.agg #[.int .i64 0, .int .i64 0, .int .i64 1]), .val (.agg #[.int .i64 0, .int .i64 0, .int .i64 1]), .val (.bool true), .val (.bool true), .val (.bool true), .val (.agg #[.int .i64 4, .int .i64 (-6), .int .i64 0]), .val (.agg #[.int .i64 2, .int .i64 (-3), .int .i64 0]), .val (.bool true), .val (.bool true), .val (.bool true), .val (.agg #[.int .i64 0, .int .i64 0, .int .i64 (-5)]), .val (.agg #[.int .i64 0, .int .i64 0, .int .i64 (-1)]), .val (.bool true), .val (.bool true), .val (.bool true), .val (.agg #[.int .i64 0, .int .i64 0, .int .i64 0]), .val (.agg #[.int .i64 0, .int .i64 0, .int .i64 0]), .val (.bool true), .val (.bool true), .val (.bool true)] [[], [0], [1], [2], [2, 3], [2, 4], [2, 5], [6], [7], [7], [7, 8, 9], [7], [7, 10, 11], [7, 12], [13], [14], [14], [14, 15, 16], [14, 17], [18], [19], [19], [19, 20, 21], [19, 22], [23], [24], [24], [24, 25, 26], [24, 27], [28]] [0, 1, 2, 3, 4, 5, 6, 7, 8, 9, 10, 11, 12, 13, 14, 15, 16, 17, 18, 19, 20, 21, 22, 23, 24, 25, 26, 27, 28, 29] [] [] [] (fun _ => 0) W4 (by kernel_rfl) (by kernel_rfl) (by kernel_rfl) (by kernel_rfl) (by kernel_rfl) ?dist ?olds ?op ?al ?st ?into ?fin (fun _ => undef) _ _ (by kernel_rfl) (of_decide_eq_true (by kernel_rfl)) (of_decide_eq_true (by kernel_rfl))
  case hn => rfl
  case dist => intro i hi j hj; simp at hi hj; try omega
  case olds => exact nofun
  case op =>
    repeat' first | exact Each.nil | refine Each.cons ?_ ?_
    all_goals intro X w7 H hb hD h
    · refine wpOp_call (i := 0) (f := 12) (args := #[.int .i64 24, .int .i64 (-24), .int .i64 0]) 19 rfl rfl (by rfl) (by go_simp) ?_
      refine (vec_l 24 (-24) 0 _).mono ?_
      rintro e w8 ⟨rfl, hk⟩
      exact ⟨_, rfl, h _ w8 rfl hk⟩
    · have e0_ : X 0 = _ := hD 0 (by decide) rfl
      refine wpOp_call (i := 1) (f := 13) (args := #[.agg #[.int .i64 24, .int .i64 (-24), .int .i64 0]]) 20 rfl rfl (by simp only [e0_]; rfl) (by simp only [e0_]; go_simp) ?_
      refine (Gives.to (v := .bool (in3 24 24 (-24) 0)) (u := .bool true) (by kernel_rfl) (in_p 24 (-24) 0 _)).mono ?_
      rintro e w8 ⟨rfl, hk⟩
      exact ⟨_, rfl, h _ w8 rfl hk⟩
    · have e1_ : X 1 = _ := hD 1 (by decide) rfl
      refine tv rfl (by simp only [e1_]; rfl) ?_ (by exact h _ w7 rfl (Below.refl _ _))
      simp only [e1_]; go_simp <;> first | rfl | (simp only [IntWalk.i64_left]; rfl)
    · have e2_ : X 2 = _ := hD 2 (by decide) rfl
      refine wpOp_call (i := 3) (f := 12) (args := #[.int .i64 0, .int .i64 25, .int .i64 0]) 22 rfl rfl (by simp only [e2_]; rfl) (by simp only [e2_]; go_simp) ?_
      refine (vec_l 0 25 0 _).mono ?_
      rintro e w8 ⟨rfl, hk⟩
      exact ⟨_, rfl, h _ w8 rfl hk⟩
    · have e2_ : X 2 = _ := hD 2 (by decide) rfl
      have e3_ : X 3 = _ := hD 3 (by decide) rfl
      refine wpOp_call (i := 4) (f := 13) (args := #[.agg #[.int .i64 0, .int .i64 25, .int .i64 0]]) 23 rfl rfl (by simp only [e2_, e3_]; rfl) (by simp only [e2_, e3_]; go_simp) ?_
      refine (Gives.to (v := .bool (in3 24 0 25 0)) (u := .bool false) (by kernel_rfl) (in_p 0 25 0 _)).mono ?_
      rintro e w8 ⟨rfl, hk⟩
      exact ⟨_, rfl, h _ w8 rfl hk⟩
    · have e2_ : X 2 = _ := hD 2 (by decide) rfl
      have e4_ : X 4 = _ := hD 4 (by decide) rfl
      refine tv rfl (by simp only [e2_, e4_]; rfl) ?_ (by exact h _ w7 rfl (Below.refl _ _))
      simp only [e2_, e4_]; go_simp <;> first | rfl | (simp only [IntWalk.i64_left]; rfl)
    · have e2_ : X 2 = _ := hD 2 (by decide) rfl
      have e5_ : X 5 = _ := hD 5 (by decide) rfl
      refine tv rfl (by simp only [e2_, e5_]; rfl) ?_ (by exact h _ w7 rfl (Below.refl _ _))
      simp only [e2_, e5_]; go_simp <;> first | rfl | (simp only [IntWalk.i64_left]; rfl)
    · have e6_ : X 6 = _ := hD 6 (by decide) rfl
      refine tv rfl (by simp only [e6_]; rfl) ?_ (by exact h _ w7 rfl (Below.refl _ _))
      simp only [e6_]; go_simp <;> first | rfl | (simp only [IntWalk.i64_left]; rfl)
    · have e7_ : X 7 = _ := hD 7 (by decide) rfl
      have hv := v0.below (show Keep [] _ _ from hb).nil
      have c0_ := hv.at 0 rfl
      have c1_ := hv.at 1 rfl
      have c2_ := hv.at 2 rfl
      refine tv rfl (by simp only [e7_]; rfl) ?_ (by exact h _ w7 rfl (Below.refl _ _))
      simp only [e7_]; go_simp <;> first | rfl | (simp only [IntWalk.i64_left]; rfl)
    · have e7_ : X 7 = _ := hD 7 (by decide) rfl
      have hv := v1.below (show Keep [] _ _ from hb).nil
      have c0_ := hv.at 0 rfl
      have c1_ := hv.at 1 rfl
      have c2_ := hv.at 2 rfl
      refine tv rfl (by simp only [e7_]; rfl) ?_ (by exact h _ w7 rfl (Below.refl _ _))
      simp only [e7_]; go_simp <;> first | rfl | (simp only [IntWalk.i64_left]; rfl)
    · have e7_ : X 7 = _ := hD 7 (by decide) rfl
      have e8_ : X 8 = _ := hD 8 (by decide) rfl
      have e9_ : X 9 = _ := hD 9 (by decide) rfl
      refine wpOp_call (i := 10) (f := 21) (args := #[.agg #[.int .i64 1, .int .i64 0, .int .i64 0], .agg #[.int .i64 0, .int .i64 1, .int .i64 0]]) 29 rfl rfl (by simp only [e7_, e8_, e9_]; rfl) (by simp only [e7_, e8_, e9_]; go_simp) ?_
      refine (Gives.to (v := V (crx 1 0 0 0 1 0) (cry 1 0 0 0 1 0) (crz 1 0 0 0 1 0)) (u := V 0 0 1) (by kernel_rfl) (cross_p 1 0 0 0 1 0 _)).mono ?_
      rintro e w8 ⟨rfl, hk⟩
      exact ⟨_, rfl, h _ w8 rfl hk⟩
    · have e7_ : X 7 = _ := hD 7 (by decide) rfl
      have hv := v2.below (show Keep [] _ _ from hb).nil
      have c0_ := hv.at 0 rfl
      have c1_ := hv.at 1 rfl
      have c2_ := hv.at 2 rfl
      refine tv rfl (by simp only [e7_]; rfl) ?_ (by exact h _ w7 rfl (Below.refl _ _))
      simp only [e7_]; go_simp <;> first | rfl | (simp only [IntWalk.i64_left]; rfl)
    · have e7_ : X 7 = _ := hD 7 (by decide) rfl
      have e10_ : X 10 = _ := hD 10 (by decide) rfl
      have e11_ : X 11 = _ := hD 11 (by decide) rfl
      refine tv rfl (by simp only [e7_, e10_, e11_]; rfl) ?_ (by exact h _ w7 rfl (Below.refl _ _))
      simp only [e7_, e10_, e11_]; go_simp <;> first | rfl | (simp only [IntWalk.i64_left]; rfl)
    · have e7_ : X 7 = _ := hD 7 (by decide) rfl
      have e12_ : X 12 = _ := hD 12 (by decide) rfl
      refine tv rfl (by simp only [e7_, e12_]; rfl) ?_ (by exact h _ w7 rfl (Below.refl _ _))
      simp only [e7_, e12_]; go_simp <;> first | rfl | (simp only [IntWalk.i64_left]; rfl)
    · have e13_ : X 13 = _ := hD 13 (by decide) rfl
      refine tv rfl (by simp only [e13_]; rfl) ?_ (by exact h _ w7 rfl (Below.refl _ _))
      simp only [e13_]; go_simp <;> first | rfl | (simp only [IntWalk.i64_left]; rfl)
    · have e14_ : X 14 = _ := hD 14 (by decide) rfl
      refine wpOp_call (i := 15) (f := 12) (args := #[.int .i64 4, .int .i64 (-6), .int .i64 0]) 34 rfl rfl (by simp only [e14_]; rfl) (by simp only [e14_]; go_simp) ?_
      refine (vec_l 4 (-6) 0 _).mono ?_
      rintro e w8 ⟨rfl, hk⟩
      exact ⟨_, rfl, h _ w8 rfl hk⟩
    · have e14_ : X 14 = _ := hD 14 (by decide) rfl
      refine wpOp_call (i := 16) (f := 12) (args := #[.int .i64 2, .int .i64 (-3), .int .i64 0]) 35 rfl rfl (by simp only [e14_]; rfl) (by simp only [e14_]; go_simp) ?_
      refine (vec_l 2 (-3) 0 _).mono ?_
      rintro e w8 ⟨rfl, hk⟩
      exact ⟨_, rfl, h _ w8 rfl hk⟩
    · have e14_ : X 14 = _ := hD 14 (by decide) rfl
      have e15_ : X 15 = _ := hD 15 (by decide) rfl
      have e16_ : X 16 = _ := hD 16 (by decide) rfl
      refine wpOp_call (i := 17) (f := 26) (args := #[.agg #[.int .i64 4, .int .i64 (-6), .int .i64 0], .agg #[.int .i64 2, .int .i64 (-3), .int .i64 0], .int .i64 2]) 36 rfl rfl (by simp only [e14_, e15_, e16_]; rfl) (by simp only [e14_, e15_, e16_]; go_simp) ?_
      refine (prim_yes 4 (-6) 0 2 (-3) 0 2 ⟨by decide, by decide⟩ ⟨by decide, by decide⟩ ⟨by decide, by decide⟩ (hideV (by kernel_rfl)) (hideV (by kernel_rfl)) (hideV (by kernel_rfl)) (hideV (by kernel_rfl)) _).mono ?_
      rintro e w8 ⟨rfl, hk⟩
      exact ⟨_, rfl, h _ w8 rfl hk⟩
    · have e14_ : X 14 = _ := hD 14 (by decide) rfl
      have e17_ : X 17 = _ := hD 17 (by decide) rfl
      refine tv rfl (by simp only [e14_, e17_]; rfl) ?_ (by exact h _ w7 rfl (Below.refl _ _))
      simp only [e14_, e17_]; go_simp <;> first | rfl | (simp only [IntWalk.i64_left]; rfl)
    · have e18_ : X 18 = _ := hD 18 (by decide) rfl
      refine tv rfl (by simp only [e18_]; rfl) ?_ (by exact h _ w7 rfl (Below.refl _ _))
      simp only [e18_]; go_simp <;> first | rfl | (simp only [IntWalk.i64_left]; rfl)
    · have e19_ : X 19 = _ := hD 19 (by decide) rfl
      refine wpOp_call (i := 20) (f := 12) (args := #[.int .i64 0, .int .i64 0, .int .i64 (-5)]) 39 rfl rfl (by simp only [e19_]; rfl) (by simp only [e19_]; go_simp) ?_
      refine (vec_l 0 0 (-5) _).mono ?_
      rintro e w8 ⟨rfl, hk⟩
      exact ⟨_, rfl, h _ w8 rfl hk⟩
    · have e19_ : X 19 = _ := hD 19 (by decide) rfl
      refine wpOp_call (i := 21) (f := 12) (args := #[.int .i64 0, .int .i64 0, .int .i64 (-1)]) 40 rfl rfl (by simp only [e19_]; rfl) (by simp only [e19_]; go_simp) ?_
      refine (vec_l 0 0 (-1) _).mono ?_
      rintro e w8 ⟨rfl, hk⟩
      exact ⟨_, rfl, h _ w8 rfl hk⟩
    · have e19_ : X 19 = _ := hD 19 (by decide) rfl
      have e20_ : X 20 = _ := hD 20 (by decide) rfl
      have e21_ : X 21 = _ := hD 21 (by decide) rfl
      refine wpOp_call (i := 22) (f := 26) (args := #[.agg #[.int .i64 0, .int .i64 0, .int .i64 (-5)], .agg #[.int .i64 0, .int .i64 0, .int .i64 (-1)], .int .i64 5]) 41 rfl rfl (by simp only [e19_, e20_, e21_]; rfl) (by simp only [e19_, e20_, e21_]; go_simp) ?_
      refine (prim_yes 0 0 (-5) 0 0 (-1) 5 ⟨by decide, by decide⟩ ⟨by decide, by decide⟩ ⟨by decide, by decide⟩ (hideV (by kernel_rfl)) (hideV (by kernel_rfl)) (hideV (by kernel_rfl)) (hideV (by kernel_rfl)) _).mono ?_
      rintro e w8 ⟨rfl, hk⟩
      exact ⟨_, rfl, h _ w8 rfl hk⟩
    · have e19_ : X 19 = _ := hD 19 (by decide) rfl
      have e22_ : X 22 = _ := hD 22 (by decide) rfl
      refine tv rfl (by simp only [e19_, e22_]; rfl) ?_ (by exact h _ w7 rfl (Below.refl _ _))
      simp only [e19_, e22_]; go_simp <;> first | rfl | (simp only [IntWalk.i64_left]; rfl)
    · have e23_ : X 23 = _ := hD 23 (by decide) rfl
      refine tv rfl (by simp only [e23_]; rfl) ?_ (by exact h _ w7 rfl (Below.refl _ _))
      simp only [e23_]; go_simp <;> first | rfl | (simp only [IntWalk.i64_left]; rfl)
    · have e24_ : X 24 = _ := hD 24 (by decide) rfl
      refine wpOp_call (i := 25) (f := 12) (args := #[.int .i64 0, .int .i64 0, .int .i64 0]) 44 rfl rfl (by simp only [e24_]; rfl) (by simp only [e24_]; go_simp) ?_
      refine (vec_l 0 0 0 _).mono ?_
      rintro e w8 ⟨rfl, hk⟩
      exact ⟨_, rfl, h _ w8 rfl hk⟩
    · have e24_ : X 24 = _ := hD 24 (by decide) rfl
      refine wpOp_call (i := 26) (f := 12) (args := #[.int .i64 0, .int .i64 0, .int .i64 0]) 45 rfl rfl (by simp only [e24_]; rfl) (by simp only [e24_]; go_simp) ?_
      refine (vec_l 0 0 0 _).mono ?_
      rintro e w8 ⟨rfl, hk⟩
      exact ⟨_, rfl, h _ w8 rfl hk⟩
    · have e24_ : X 24 = _ := hD 24 (by decide) rfl
      have e25_ : X 25 = _ := hD 25 (by decide) rfl
      have e26_ : X 26 = _ := hD 26 (by decide) rfl
      refine wpOp_call (i := 27) (f := 26) (args := #[.agg #[.int .i64 0, .int .i64 0, .int .i64 0], .agg #[.int .i64 0, .int .i64 0, .int .i64 0], .int .i64 0]) 46 rfl rfl (by simp only [e24_, e25_, e26_]; rfl) (by simp only [e24_, e25_, e26_]; go_simp) ?_
      refine (prim_yes 0 0 0 0 0 0 0 ⟨by decide, by decide⟩ ⟨by decide, by decide⟩ ⟨by decide, by decide⟩ (hideV (by kernel_rfl)) (hideV (by kernel_rfl)) (hideV (by kernel_rfl)) (hideV (by kernel_rfl)) _).mono ?_
      rintro e w8 ⟨rfl, hk⟩
      exact ⟨_, rfl, h _ w8 rfl hk⟩
    · have e24_ : X 24 = _ := hD 24 (by decide) rfl
      have e27_ : X 27 = _ := hD 27 (by decide) rfl
      refine tv rfl (by simp only [e24_, e27_]; rfl) ?_ (by exact h _ w7 rfl (Below.refl _ _))
      simp only [e24_, e27_]; go_simp <;> first | rfl | (simp only [IntWalk.i64_left]; rfl)
    · have e28_ : X 28 = _ := hD 28 (by decide) rfl
      refine tv rfl (by simp only [e28_]; rfl) ?_ (by exact h _ w7 rfl (Below.refl _ _))
      simp only [e28_]; go_simp <;> first | rfl | (simp only [IntWalk.i64_left]; rfl)
  case al => exact Each.nil
  case st => exact Each.nil
  case into => exact Each.nil
  case fin =>
    intro X2_ W5 hI
    have hE : Keep [] W4 W5 := hI.keep
    have e29_ : X2_ 29 = _ := hI.fact 29 (by decide) rfl rfl
    have v0 := v0.below hE.nil
    have v1 := v1.below hE.nil
    have v2 := v2.below hE.nil
    have hB := hB.trans (hE.nil.mono hB.size)
    simp only [e29_]
    clear e29_ hI hE
    go_wp2_with fail
    refine (vec_l 2 4 0 _).mono ?_
    rintro e W6 ⟨rfl, hk⟩
    try simp only [V]
    have hs := hk
    have v0 := v0.below hs
    have v1 := v1.below hs
    have v2 := v2.below hs
    have hB := hB.trans (hs.mono hB.size)
    clear hs hk
    go_wp2_with fail
    refine (Gives.to (v := .bool (valid 2 4 0 1)) (u := .bool false) (by kernel_rfl) (valid_p 2 4 0 1 ⟨by decide, by decide⟩ ⟨by decide, by decide⟩ ⟨by decide, by decide⟩ _)).mono ?_
    rintro e W7 ⟨rfl, hk⟩
    have hs := hk
    have v0 := v0.below hs
    have v1 := v1.below hs
    have v2 := v2.below hs
    have hB := hB.trans (hs.mono hB.size)
    clear hs hk
    go_wp2_with fail
    refine (vec_l 1 4609 0 _).mono ?_
    rintro e W8 ⟨rfl, hk⟩
    try simp only [V]
    have hs := hk
    have v0 := v0.below hs
    have v1 := v1.below hs
    have v2 := v2.below hs
    have hB := hB.trans (hs.mono hB.size)
    clear hs hk
    go_wp2_with fail
    refine (Gives.to (v := .bool (valid 1 4609 0 0)) (u := .bool false) (by kernel_rfl) (valid_p 1 4609 0 0 ⟨by decide, by decide⟩ ⟨by decide, by decide⟩ ⟨by decide, by decide⟩ _)).mono ?_
    rintro e W9 ⟨rfl, hk⟩
    have hs := hk
    have v0 := v0.below hs
    have v1 := v1.below hs
    have v2 := v2.below hs
    have hB := hB.trans (hs.mono hB.size)
    clear hs hk
    have cb0_0 := v0.at 0 rfl
    have cb0_1 := v0.at 1 rfl
    have cb0_2 := v0.at 2 rfl
    go_wp2_with fail
    refine (Gives.to (v := .bool (valid 1 0 0 2097152)) (u := .bool true) (by kernel_rfl) (valid_p 1 0 0 2097152 ⟨by decide, by decide⟩ ⟨by decide, by decide⟩ ⟨by decide, by decide⟩ _)).mono ?_
    rintro e W10 ⟨rfl, hk⟩
    have hs := hk
    have v0 := v0.below hs
    have v1 := v1.below hs
    have v2 := v2.below hs
    have hB := hB.trans (hs.mono hB.size)
    clear cb0_0 cb0_1 cb0_2 hs hk
    have cb0_0 := v0.at 0 rfl
    have cb0_1 := v0.at 1 rfl
    have cb0_2 := v0.at 2 rfl
    have cb1_0 := v1.at 0 rfl
    have cb1_1 := v1.at 1 rfl
    have cb1_2 := v1.at 2 rfl
    have cb2_0 := v2.at 0 rfl
    have cb2_1 := v2.at 1 rfl
    have cb2_2 := v2.at 2 rfl
    go_wp2_with fail
    refine (Gives.to (v := .tuple #[Pl 1 1 1 (dt 1 1 1 1 0 0), .bool true]) (u := .tuple #[Pl 1 1 1 1, .bool true]) (by kernel_rfl) (through_p_yes 1 0 0 0 1 0 0 0 1 (-1) 1 0 (-1) 0 1 1 1 1 1 1 1 1 (hideV (by kernel_rfl)) (hideV (by kernel_rfl)) (hideV (by kernel_rfl)) (hideV (by kernel_rfl)) (hideV (by kernel_rfl)) (hideV (by kernel_rfl)) (hideV (by kernel_rfl)) (hideV (by kernel_rfl)) (hideV (by kernel_rfl)) (hideV (by kernel_rfl)) (hideV (by kernel_rfl)) (hideV (by kernel_rfl)) ⟨by decide, by decide⟩ ⟨by decide, by decide⟩ ⟨by decide, by decide⟩ (hideV (by kernel_rfl)) (hideV (by kernel_rfl)) (hideV (by kernel_rfl)) (hideV (by kernel_rfl)) (by decide) _)).mono ?_
    rintro e W11 ⟨rfl, hk⟩
    try simp only [Pl]
    have hs := hk
    have v0 := v0.below hs
    have v1 := v1.below hs
    have v2 := v2.below hs
    have hB := hB.trans (hs.mono hB.size)
    clear cb0_0 cb0_1 cb0_2 cb1_0 cb1_1 cb1_2 cb2_0 cb2_1 cb2_2 hs hk
    go_wp2_with fail
    refine (vec_l 0 0 0 _).mono ?_
    rintro e W12 ⟨rfl, hk⟩
    try simp only [V]
    have hs : Below W11.heap.size W11 W12 := Below.trans (by repeat (first | exact Below.refl _ _ | refine Below.alloc ?_ (by first | omega | (simp; try omega)) _ | refine Below.setCell ?_ (by first | omega | (simp; try omega)) _)) (hk.mono (by first | omega | (simp; try omega)))
    have v0 := v0.below hs
    have v1 := v1.below hs
    have v2 := v2.below hs
    have v3 : Var W12 (W11.heap.size) [.int .i64 1, .int .i64 1, .int .i64 1, .int .i64 1] := Var.low ⟨by first | omega | (simp; try omega), by simp [Cel, go_sem]⟩ hk (by first | omega | (simp; try omega))
    obtain ⟨b3, hb3⟩ : ∃ b, W11.heap.size = b := ⟨_, rfl⟩
    have lob3 : w.heap.size ≤ b3 := by have := hB.size; omega
    rw [hb3] at v3
    try rw [hb3]
    have hB := hB.trans (hs.mono hB.size)
    clear hb3 hs hk
    go_wp2_with fail
    refine (vec_l 1 1 1 _).mono ?_
    rintro e W13 ⟨rfl, hk⟩
    try simp only [V]
    have hs := hk
    have v0 := v0.below hs
    have v1 := v1.below hs
    have v2 := v2.below hs
    have v3 := v3.below hs
    have hB := hB.trans (hs.mono hB.size)
    clear hs hk
    go_wp2_with fail
    refine (vec_l 2 2 2 _).mono ?_
    rintro e W14 ⟨rfl, hk⟩
    try simp only [V]
    have hs := hk
    have v0 := v0.below hs
    have v1 := v1.below hs
    have v2 := v2.below hs
    have v3 := v3.below hs
    have hB := hB.trans (hs.mono hB.size)
    clear hs hk
    go_wp2_with fail
    refine (through_p_flat 0 0 0 1 1 1 2 2 2 1 1 1 2 2 2 0 0 0 0 0 0 (hideV (by kernel_rfl)) (hideV (by kernel_rfl)) (hideV (by kernel_rfl)) (hideV (by kernel_rfl)) (hideV (by kernel_rfl)) (hideV (by kernel_rfl)) (hideV (by kernel_rfl)) (hideV (by kernel_rfl)) (hideV (by kernel_rfl)) (hideV (by kernel_rfl)) (hideV (by kernel_rfl)) (hideV (by kernel_rfl)) ⟨by decide, by decide⟩ ⟨by decide, by decide⟩ ⟨by decide, by decide⟩ (hideV (by kernel_rfl)) (hideV (by kernel_rfl)) (hideV (by kernel_rfl)) (hideV (by kernel_rfl)) _).mono ?_
    rintro e W15 ⟨rfl, hk⟩
    try simp only [Pl]
    have hs := hk
    have v0 := v0.below hs
    have v1 := v1.below hs
    have v2 := v2.below hs
    have v3 := v3.below hs
    have hB := hB.trans (hs.mono hB.size)
    clear hs hk
    go_wp2_with fail
    refine wp_region_dag (by kernel_rfl) ?_
    intro W16 hk
    have hs : Below W15.heap.size W15 W16 := Below.trans (by repeat (first | exact Below.refl _ _ | refine Below.alloc ?_ (by first | omega | (simp; try omega)) _ | refine Below.setCell ?_ (by first | omega | (simp; try omega)) _)) (hk.mono (by first | omega | (simp; try omega)))
    have v0 := v0.below hs
    have v1 := v1.below hs
    have v2 := v2.below hs
    have v3 := v3.below hs
    have v4 : Var W16 (W15.heap.size) [.int .i64 0, .int .i64 0, .int .i64 0, .int .i64 0] := Var.low ⟨by first | omega | (simp; try omega), by simp [Cel, go_sem]⟩ hk (by first | omega | (simp; try omega))
    obtain ⟨b4, hb4⟩ : ∃ b, W15.heap.size = b := ⟨_, rfl⟩
    have lob4 : w.heap.size ≤ b4 := by have := hB.size; omega
    rw [hb4] at v4
    try rw [hb4]
    have hB := hB.trans (hs.mono hB.size)
    clear hb4 hs hk
    refine dagV (fun _ => trivial) 30 ?hn (fun X => ⟨#[.bool false, .pointer (some ⟨b0, 0, none⟩), .pointer (some ⟨b1, 0, none⟩), .pointer (some ⟨b2, 0, none⟩), .bool true, .bool true, .pointer (some ⟨b3, 0, none⟩), .bool true, .pointer (some ⟨b4, 0, none⟩), .bool false, X 29, undef, undef, undef, undef, undef, .agg #[.int .i64 1, .int .i64 0, .int .i64 0], .agg #[.int .i64 0, .int .i64 1, .int .i64 0], .agg #[.int .i64 0, .int .i64 0, .int .i64 1], X2_ 0, X2_ 1, X2_ 2, X2_ 3, X2_ 4, X2_ 5, X2_ 6, X2_ 7, X2_ 8, X2_ 9, X2_ 10, X2_ 11, X2_ 12, X2_ 13, X2_ 14, X2_ 15, X2_ 16, X2_ 17, X2_ 18, X2_ 19, X2_ 20, X2_ 21, X2_ 22, X2_ 23, X2_ 24, X2_ 25, X2_ 26, X2_ 27, X2_ 28, .agg #[.int .i64 2, .int .i64 4, .int .i64 0], .agg #[.int .i64 2, .int .i64 4, .int .i64 0, .int .i64 1], .bool false, .bool true, .bool true, .agg #[.int .i64 1, .int .i64 4609, .int .i64 0], .agg #[.int .i64 1, .int .i64 4609, .int .i64 0, .int .i64 0], .bool false, .bool true, .bool true, .bool true, .agg #[.int .i64 1, .int .i64 0, .int .i64 0], .agg #[.int .i64 1, .int .i64 0, .int .i64 0, .int .i64 2097152], .bool true, .bool true, .tuple #[.agg #[.int .i64 1, .int .i64 1, .int .i64 1, .int .i64 1], .bool true], .agg #[.int .i64 1, .int .i64 0, .int .i64 0], .agg #[.int .i64 0, .int .i64 1, .int .i64 0], .agg #[.int .i64 0, .int .i64 0, .int .i64 1], .tuple #[.agg #[.int .i64 1, .int .i64 1, .int .i64 1, .int .i64 1], .bool true], .agg #[.int .i64 1, .int .i64 1, .int .i64 1, .int .i64 1], .bool true, .tuple #[.agg #[.int .i64 0, .int .i64 0, .int .i64 0, .int .i64 0], .bool false], .agg #[.int .i64 0, .int .i64 0, .int .i64 0], .agg #[.int .i64 1, .int .i64 1, .int .i64 1], .agg #[.int .i64 2, .int .i64 2, .int .i64 2], .tuple #[.agg #[.int .i64 0, .int .i64 0, .int .i64 0, .int .i64 0], .bool false], .agg #[.int .i64 0, .int .i64 0, .int .i64 0, .int .i64 0], .bool false, X 0, X 1, X 2, X 3, X 4, X 5, X 6, X 7, X 8, X 9, X 10, X 11, X 12, X 13, X 14, X 15, X 16, X 17, X 18, X 19, X 20, X 21, X 22, X 23, X 24, X 25, X 26, X 27, X 28, undef, undef, undef, undef, undef, undef, undef, undef, undef, undef, undef, undef, undef, undef, undef, undef, undef, undef, undef, undef, undef, undef, undef, undef, undef, undef, undef, undef, undef, undef, undef, undef, undef, undef, undef, undef, undef, undef, undef, undef, undef, undef, undef, undef, undef, undef, undef, undef, undef, undef, undef, undef, undef, undef, undef], []⟩) [(0, 0, 0), (0, 0, 0), (0, 0, 0), (0, 0, 0), (0, 0, 0), (0, 0, 0), (0, 0, 0), (0, 0, 0), (0, 0, 0), (0, 0, 0), (0, 0, 0), (0, 0, 0), (0, 0, 0), (0, 0, 0), (0, 0, 0), (0, 0, 0), (0, 0, 0), (0, 0, 0), (0, 0, 0), (0, 0, 0), (0, 0, 0), (0, 0, 0), (0, 0, 0), (0, 0, 0), (0, 0, 0), (0, 0, 0), (0, 0, 0), (0, 0, 0), (0, 0, 0), (0, 0, 0)] (fun _ => []) [.val (.bool true), .val (.bool true), .val (.agg #[.int .i64 1, .int .i64 1, .int .i64 1, .int .i64 1]), .val (.agg #[.int .i64 1, .int .i64 1, .int .i64 1]), .val (.agg #[.int .i64 1, .int .i64 1, .int .i64 1, .int .i64 1]), .val (.bool true), .val (.bool true), .val (.bool true), .val (.bool false), .val (.bool true), .val (.bool true), .val (.bool true), .val (.agg #[.int .i64 1, .int .i64 1, .int .i64 1, .int .i64 1]), .val (.agg #[.int .i64 0, .int .i64 0, .int .i64 0]), .val (.int .i64 (-1)), .val (.bool true), .val (.bool true), .val (.bool true), .val (.agg #[.int .i64 1, .int .i64 1, .int .i64 1, .int .i64 1]), .val (.agg #[.int .i64 1, .int .i64 0, .int .i64 0]), .val (.int .i64 0), .val (.bool true), .val (.bool true), .val (.bool true), .val (.agg #[.int .i64 1, .int .i64 1, .int .i64 1, .int .i64 1]), .val (.agg #[.int .i64 1, .int .i64 1, .int .i64 0]), .val (.int .i64 1), .val (.bool true), .val (.bool true), .val (.bool true)] [[], [0], [1], [1], [1, 3], [1, 2, 4], [1, 5], [6], [7], [7, 8], [7, 9], [10], [11], [11], [11, 12, 13], [11, 14], [11, 15], [16], [17], [17], [17, 18, 19], [17, 20], [17, 21], [22], [23], [23], [23, 24, 25], [23, 26], [23, 27], [28]] [0, 1, 2, 3, 4, 5, 6, 7, 8, 9, 10, 11, 12, 13, 14, 15, 16, 17, 18, 19, 20, 21, 22, 23, 24, 25, 26, 27, 28, 29] [] [] [] (fun _ => 0) W16 (by kernel_rfl) (by kernel_rfl) (by kernel_rfl) (by kernel_rfl) (by kernel_rfl) ?dist ?olds ?op ?al ?st ?into ?fin (fun _ => undef) _ _ (by kernel_rfl) (of_decide_eq_true (by kernel_rfl)) (of_decide_eq_true (by kernel_rfl))
    case hn => rfl
    case dist => intro i hi j hj; simp at hi hj; try omega
    case olds => exact nofun
    case op =>
      repeat' first | exact Each.nil | refine Each.cons ?_ ?_
      all_goals intro X w7 H hb hD h
      · refine tv rfl (by rfl) ?_ (by exact h _ w7 rfl (Below.refl _ _))
        go_simp <;> first | rfl | (simp only [IntWalk.i64_left]; rfl)
      · have e0_ : X 0 = _ := hD 0 (by decide) rfl
        refine tv rfl (by simp only [e0_]; rfl) ?_ (by exact h _ w7 rfl (Below.refl _ _))
        simp only [e0_]; go_simp <;> first | rfl | (simp only [IntWalk.i64_left]; rfl)
      · have e1_ : X 1 = _ := hD 1 (by decide) rfl
        have hv := v3.below (show Keep [] _ _ from hb).nil
        have c0_ := hv.at 0 rfl
        have c1_ := hv.at 1 rfl
        have c2_ := hv.at 2 rfl
        have c3_ := hv.at 3 rfl
        refine tv rfl (by simp only [e1_]; rfl) ?_ (by exact h _ w7 rfl (Below.refl _ _))
        simp only [e1_]; go_simp <;> first | rfl | (simp only [IntWalk.i64_left]; rfl)
      · have e1_ : X 1 = _ := hD 1 (by decide) rfl
        refine wpOp_call (i := 3) (f := 12) (args := #[.int .i64 1, .int .i64 1, .int .i64 1]) 80 rfl rfl (by simp only [e1_]; rfl) (by simp only [e1_]; go_simp) ?_
        refine (vec_l 1 1 1 _).mono ?_
        rintro e w8 ⟨rfl, hk⟩
        exact ⟨_, rfl, h _ w8 rfl hk⟩
      · have e1_ : X 1 = _ := hD 1 (by decide) rfl
        have e3_ : X 3 = _ := hD 3 (by decide) rfl
        refine tv rfl (by simp only [e1_, e3_]; rfl) ?_ (by exact h _ w7 rfl (Below.refl _ _))
        simp only [e1_, e3_]; go_simp <;> first | rfl | (simp only [IntWalk.i64_left]; rfl)
      · have e1_ : X 1 = _ := hD 1 (by decide) rfl
        have e2_ : X 2 = _ := hD 2 (by decide) rfl
        have e4_ : X 4 = _ := hD 4 (by decide) rfl
        refine tv rfl (by simp only [e1_, e2_, e4_]; rfl) ?_ (by exact h _ w7 rfl (Below.refl _ _))
        simp only [e1_, e2_, e4_]; go_simp <;> first | rfl | (simp only [IntWalk.i64_left]; rfl)
      · have e1_ : X 1 = _ := hD 1 (by decide) rfl
        have e5_ : X 5 = _ := hD 5 (by decide) rfl
        refine tv rfl (by simp only [e1_, e5_]; rfl) ?_ (by exact h _ w7 rfl (Below.refl _ _))
        simp only [e1_, e5_]; go_simp <;> first | rfl | (simp only [IntWalk.i64_left]; rfl)
      · have e6_ : X 6 = _ := hD 6 (by decide) rfl
        refine tv rfl (by simp only [e6_]; rfl) ?_ (by exact h _ w7 rfl (Below.refl _ _))
        simp only [e6_]; go_simp <;> first | rfl | (simp only [IntWalk.i64_left]; rfl)
      · have e7_ : X 7 = _ := hD 7 (by decide) rfl
        refine tv rfl (by simp only [e7_]; rfl) ?_ (by exact h _ w7 rfl (Below.refl _ _))
        simp only [e7_]; go_simp <;> first | rfl | (simp only [IntWalk.i64_left]; rfl)
      · have e7_ : X 7 = _ := hD 7 (by decide) rfl
        have e8_ : X 8 = _ := hD 8 (by decide) rfl
        refine tv rfl (by simp only [e7_, e8_]; rfl) ?_ (by exact h _ w7 rfl (Below.refl _ _))
        simp only [e7_, e8_]; go_simp <;> first | rfl | (simp only [IntWalk.i64_left]; rfl)
      · have e7_ : X 7 = _ := hD 7 (by decide) rfl
        have e9_ : X 9 = _ := hD 9 (by decide) rfl
        refine tv rfl (by simp only [e7_, e9_]; rfl) ?_ (by exact h _ w7 rfl (Below.refl _ _))
        simp only [e7_, e9_]; go_simp <;> first | rfl | (simp only [IntWalk.i64_left]; rfl)
      · have e10_ : X 10 = _ := hD 10 (by decide) rfl
        refine tv rfl (by simp only [e10_]; rfl) ?_ (by exact h _ w7 rfl (Below.refl _ _))
        simp only [e10_]; go_simp <;> first | rfl | (simp only [IntWalk.i64_left]; rfl)
      · have e11_ : X 11 = _ := hD 11 (by decide) rfl
        have hv := v3.below (show Keep [] _ _ from hb).nil
        have c0_ := hv.at 0 rfl
        have c1_ := hv.at 1 rfl
        have c2_ := hv.at 2 rfl
        have c3_ := hv.at 3 rfl
        refine tv rfl (by simp only [e11_]; rfl) ?_ (by exact h _ w7 rfl (Below.refl _ _))
        simp only [e11_]; go_simp <;> first | rfl | (simp only [IntWalk.i64_left]; rfl)
      · have e11_ : X 11 = _ := hD 11 (by decide) rfl
        refine wpOp_call (i := 13) (f := 12) (args := #[.int .i64 0, .int .i64 0, .int .i64 0]) 90 rfl rfl (by simp only [e11_]; rfl) (by simp only [e11_]; go_simp) ?_
        refine (vec_l 0 0 0 _).mono ?_
        rintro e w8 ⟨rfl, hk⟩
        exact ⟨_, rfl, h _ w8 rfl hk⟩
      · have e11_ : X 11 = _ := hD 11 (by decide) rfl
        have e12_ : X 12 = _ := hD 12 (by decide) rfl
        have e13_ : X 13 = _ := hD 13 (by decide) rfl
        refine wpOp_call (i := 14) (f := 33) (args := #[.agg #[.int .i64 1, .int .i64 1, .int .i64 1, .int .i64 1], .agg #[.int .i64 0, .int .i64 0, .int .i64 0]]) 91 rfl rfl (by simp only [e11_, e12_, e13_]; rfl) (by simp only [e11_, e12_, e13_]; go_simp) ?_
        refine (Gives.to (v := .int .i64 (ordL [(dt 1 1 1 0 0 0, 1)])) (u := .int .i64 (-1)) (by kernel_rfl) (side_p_yes 1 1 1 1 0 0 0 ⟨by decide, by decide⟩ ⟨by decide, by decide⟩ ⟨by decide, by decide⟩ (hideV (by kernel_rfl)) (hideV (by kernel_rfl)) _)).mono ?_
        rintro e w8 ⟨rfl, hk⟩
        exact ⟨_, rfl, h _ w8 rfl hk⟩
      · have e11_ : X 11 = _ := hD 11 (by decide) rfl
        have e14_ : X 14 = _ := hD 14 (by decide) rfl
        refine tv rfl (by simp only [e11_, e14_]; rfl) ?_ (by exact h _ w7 rfl (Below.refl _ _))
        simp only [e11_, e14_]; go_simp <;> first | rfl | (simp only [IntWalk.i64_left]; rfl)
      · have e11_ : X 11 = _ := hD 11 (by decide) rfl
        have e15_ : X 15 = _ := hD 15 (by decide) rfl
        refine tv rfl (by simp only [e11_, e15_]; rfl) ?_ (by exact h _ w7 rfl (Below.refl _ _))
        simp only [e11_, e15_]; go_simp <;> first | rfl | (simp only [IntWalk.i64_left]; rfl)
      · have e16_ : X 16 = _ := hD 16 (by decide) rfl
        refine tv rfl (by simp only [e16_]; rfl) ?_ (by exact h _ w7 rfl (Below.refl _ _))
        simp only [e16_]; go_simp <;> first | rfl | (simp only [IntWalk.i64_left]; rfl)
      · have e17_ : X 17 = _ := hD 17 (by decide) rfl
        have hv := v3.below (show Keep [] _ _ from hb).nil
        have c0_ := hv.at 0 rfl
        have c1_ := hv.at 1 rfl
        have c2_ := hv.at 2 rfl
        have c3_ := hv.at 3 rfl
        refine tv rfl (by simp only [e17_]; rfl) ?_ (by exact h _ w7 rfl (Below.refl _ _))
        simp only [e17_]; go_simp <;> first | rfl | (simp only [IntWalk.i64_left]; rfl)
      · have e17_ : X 17 = _ := hD 17 (by decide) rfl
        have hv := v0.below (show Keep [] _ _ from hb).nil
        have c0_ := hv.at 0 rfl
        have c1_ := hv.at 1 rfl
        have c2_ := hv.at 2 rfl
        refine tv rfl (by simp only [e17_]; rfl) ?_ (by exact h _ w7 rfl (Below.refl _ _))
        simp only [e17_]; go_simp <;> first | rfl | (simp only [IntWalk.i64_left]; rfl)
      · have e17_ : X 17 = _ := hD 17 (by decide) rfl
        have e18_ : X 18 = _ := hD 18 (by decide) rfl
        have e19_ : X 19 = _ := hD 19 (by decide) rfl
        refine wpOp_call (i := 20) (f := 33) (args := #[.agg #[.int .i64 1, .int .i64 1, .int .i64 1, .int .i64 1], .agg #[.int .i64 1, .int .i64 0, .int .i64 0]]) 97 rfl rfl (by simp only [e17_, e18_, e19_]; rfl) (by simp only [e17_, e18_, e19_]; go_simp) ?_
        refine (Gives.to (v := .int .i64 (ordL [(dt 1 1 1 1 0 0, 1)])) (u := .int .i64 0) (by kernel_rfl) (side_p_yes 1 1 1 1 1 0 0 ⟨by decide, by decide⟩ ⟨by decide, by decide⟩ ⟨by decide, by decide⟩ (hideV (by kernel_rfl)) (hideV (by kernel_rfl)) _)).mono ?_
        rintro e w8 ⟨rfl, hk⟩
        exact ⟨_, rfl, h _ w8 rfl hk⟩
      · have e17_ : X 17 = _ := hD 17 (by decide) rfl
        have e20_ : X 20 = _ := hD 20 (by decide) rfl
        refine tv rfl (by simp only [e17_, e20_]; rfl) ?_ (by exact h _ w7 rfl (Below.refl _ _))
        simp only [e17_, e20_]; go_simp <;> first | rfl | (simp only [IntWalk.i64_left]; rfl)
      · have e17_ : X 17 = _ := hD 17 (by decide) rfl
        have e21_ : X 21 = _ := hD 21 (by decide) rfl
        refine tv rfl (by simp only [e17_, e21_]; rfl) ?_ (by exact h _ w7 rfl (Below.refl _ _))
        simp only [e17_, e21_]; go_simp <;> first | rfl | (simp only [IntWalk.i64_left]; rfl)
      · have e22_ : X 22 = _ := hD 22 (by decide) rfl
        refine tv rfl (by simp only [e22_]; rfl) ?_ (by exact h _ w7 rfl (Below.refl _ _))
        simp only [e22_]; go_simp <;> first | rfl | (simp only [IntWalk.i64_left]; rfl)
      · have e23_ : X 23 = _ := hD 23 (by decide) rfl
        have hv := v3.below (show Keep [] _ _ from hb).nil
        have c0_ := hv.at 0 rfl
        have c1_ := hv.at 1 rfl
        have c2_ := hv.at 2 rfl
        have c3_ := hv.at 3 rfl
        refine tv rfl (by simp only [e23_]; rfl) ?_ (by exact h _ w7 rfl (Below.refl _ _))
        simp only [e23_]; go_simp <;> first | rfl | (simp only [IntWalk.i64_left]; rfl)
      · have e23_ : X 23 = _ := hD 23 (by decide) rfl
        refine wpOp_call (i := 25) (f := 12) (args := #[.int .i64 1, .int .i64 1, .int .i64 0]) 102 rfl rfl (by simp only [e23_]; rfl) (by simp only [e23_]; go_simp) ?_
        refine (vec_l 1 1 0 _).mono ?_
        rintro e w8 ⟨rfl, hk⟩
        exact ⟨_, rfl, h _ w8 rfl hk⟩
      · have e23_ : X 23 = _ := hD 23 (by decide) rfl
        have e24_ : X 24 = _ := hD 24 (by decide) rfl
        have e25_ : X 25 = _ := hD 25 (by decide) rfl
        refine wpOp_call (i := 26) (f := 33) (args := #[.agg #[.int .i64 1, .int .i64 1, .int .i64 1, .int .i64 1], .agg #[.int .i64 1, .int .i64 1, .int .i64 0]]) 103 rfl rfl (by simp only [e23_, e24_, e25_]; rfl) (by simp only [e23_, e24_, e25_]; go_simp) ?_
        refine (Gives.to (v := .int .i64 (ordL [(dt 1 1 1 1 1 0, 1)])) (u := .int .i64 1) (by kernel_rfl) (side_p_yes 1 1 1 1 1 1 0 ⟨by decide, by decide⟩ ⟨by decide, by decide⟩ ⟨by decide, by decide⟩ (hideV (by kernel_rfl)) (hideV (by kernel_rfl)) _)).mono ?_
        rintro e w8 ⟨rfl, hk⟩
        exact ⟨_, rfl, h _ w8 rfl hk⟩
      · have e23_ : X 23 = _ := hD 23 (by decide) rfl
        have e26_ : X 26 = _ := hD 26 (by decide) rfl
        refine tv rfl (by simp only [e23_, e26_]; rfl) ?_ (by exact h _ w7 rfl (Below.refl _ _))
        simp only [e23_, e26_]; go_simp <;> first | rfl | (simp only [IntWalk.i64_left]; rfl)
      · have e23_ : X 23 = _ := hD 23 (by decide) rfl
        have e27_ : X 27 = _ := hD 27 (by decide) rfl
        refine tv rfl (by simp only [e23_, e27_]; rfl) ?_ (by exact h _ w7 rfl (Below.refl _ _))
        simp only [e23_, e27_]; go_simp <;> first | rfl | (simp only [IntWalk.i64_left]; rfl)
      · have e28_ : X 28 = _ := hD 28 (by decide) rfl
        refine tv rfl (by simp only [e28_]; rfl) ?_ (by exact h _ w7 rfl (Below.refl _ _))
        simp only [e28_]; go_simp <;> first | rfl | (simp only [IntWalk.i64_left]; rfl)
    case al => exact Each.nil
    case st => exact Each.nil
    case into => exact Each.nil
    case fin =>
      intro X6_ W17 hI
      have hE : Keep [] W16 W17 := hI.keep
      have e29_ : X6_ 29 = _ := hI.fact 29 (by decide) rfl rfl
      have v0 := v0.below hE.nil
      have v1 := v1.below hE.nil
      have v2 := v2.below hE.nil
      have v3 := v3.below hE.nil
      have v4 := v4.below hE.nil
      have hB := hB.trans (hE.nil.mono hB.size)
      simp only [e29_]
      clear e29_ hI hE
      have cb0_0 := v0.at 0 rfl
      have cb0_1 := v0.at 1 rfl
      have cb0_2 := v0.at 2 rfl
      go_wp2_with fail
      refine (Gives.to (v := .tuple #[Pl 1 0 0 (wrap64 (5 + (-7))), .bool true]) (u := .tuple #[Pl 1 0 0 (-2), .bool true]) (by kernel_rfl) (push_yes 1 0 0 5 (-7) ⟨by decide, by decide⟩ ⟨by decide, by decide⟩ ⟨by decide, by decide⟩ (hideV (by kernel_rfl)) (hideV (by kernel_rfl)) _)).mono ?_
      rintro e W18 ⟨rfl, hk⟩
      try simp only [Pl]
      have hs := hk
      have v0 := v0.below hs
      have v1 := v1.below hs
      have v2 := v2.below hs
      have v3 := v3.below hs
      have v4 := v4.below hs
      have hB := hB.trans (hs.mono hB.size)
      clear cb0_0 cb0_1 cb0_2 hs hk
      have cb0_0 := v0.at 0 rfl
      have ab0_0_1 : ∀ o0, (W18.alloc o0).cell? ⟨b0, 0, none⟩ = some (.int .i64 1) := fun o0 => (v0.allocs1 o0).at 0 rfl
      have cb0_1 := v0.at 1 rfl
      have ab0_1_1 : ∀ o0, (W18.alloc o0).cell? ⟨b0, 1, none⟩ = some (.int .i64 0) := fun o0 => (v0.allocs1 o0).at 1 rfl
      have cb0_2 := v0.at 2 rfl
      have ab0_2_1 : ∀ o0, (W18.alloc o0).cell? ⟨b0, 2, none⟩ = some (.int .i64 0) := fun o0 => (v0.allocs1 o0).at 2 rfl
      go_wp2_with fail
      refine (push_no2 1 0 0 2097152 1 ⟨by decide, by decide⟩ ⟨by decide, by decide⟩ ⟨by decide, by decide⟩ (hideV (by kernel_rfl)) (hideV (by kernel_rfl)) _).mono ?_
      rintro e W19 ⟨rfl, hk⟩
      try simp only [Pl]
      have hs : Below W18.heap.size W18 W19 := Below.trans (by repeat (first | exact Below.refl _ _ | refine Below.alloc ?_ (by first | omega | (simp; try omega)) _ | refine Below.setCell ?_ (by first | omega | (simp; try omega)) _)) (hk.mono (by first | omega | (simp; try omega)))
      have v0 := v0.below hs
      have v1 := v1.below hs
      have v2 := v2.below hs
      have v3 := v3.below hs
      have v4 := v4.below hs
      have v5 : Var W19 (W18.heap.size) [.int .i64 1, .int .i64 0, .int .i64 0, .int .i64 (-2)] := Var.low ⟨by first | omega | (simp; try omega), by simp [Cel, go_sem]⟩ hk (by first | omega | (simp; try omega))
      obtain ⟨b5, hb5⟩ : ∃ b, W18.heap.size = b := ⟨_, rfl⟩
      have lob5 : w.heap.size ≤ b5 := by have := hB.size; omega
      rw [hb5] at v5
      try rw [hb5]
      have hB := hB.trans (hs.mono hB.size)
      clear cb0_0 cb0_1 cb0_2 hb5 hs hk ab0_0_1 ab0_1_1 ab0_2_1
      have cb5_0 := v5.at 0 rfl
      have ab5_0_1 : ∀ o0, (W19.alloc o0).cell? ⟨b5, 0, none⟩ = some (.int .i64 1) := fun o0 => (v5.allocs1 o0).at 0 rfl
      have cb5_1 := v5.at 1 rfl
      have ab5_1_1 : ∀ o0, (W19.alloc o0).cell? ⟨b5, 1, none⟩ = some (.int .i64 0) := fun o0 => (v5.allocs1 o0).at 1 rfl
      have cb5_2 := v5.at 2 rfl
      have ab5_2_1 : ∀ o0, (W19.alloc o0).cell? ⟨b5, 2, none⟩ = some (.int .i64 0) := fun o0 => (v5.allocs1 o0).at 2 rfl
      have cb5_3 := v5.at 3 rfl
      have ab5_3_1 : ∀ o0, (W19.alloc o0).cell? ⟨b5, 3, none⟩ = some (.int .i64 (-2)) := fun o0 => (v5.allocs1 o0).at 3 rfl
      have cb0_0 := v0.at 0 rfl
      have ab0_0_1 : ∀ o0, (W19.alloc o0).cell? ⟨b0, 0, none⟩ = some (.int .i64 1) := fun o0 => (v0.allocs1 o0).at 0 rfl
      have cb0_1 := v0.at 1 rfl
      have ab0_1_1 : ∀ o0, (W19.alloc o0).cell? ⟨b0, 1, none⟩ = some (.int .i64 0) := fun o0 => (v0.allocs1 o0).at 1 rfl
      have cb0_2 := v0.at 2 rfl
      have ab0_2_1 : ∀ o0, (W19.alloc o0).cell? ⟨b0, 2, none⟩ = some (.int .i64 0) := fun o0 => (v0.allocs1 o0).at 2 rfl
      go_wp2_with fail
      refine (vec_l 1 (-2) 3 _).mono ?_
      rintro e W20 ⟨rfl, hk⟩
      try simp only [V]
      have hs : Below W19.heap.size W19 W20 := Below.trans (by repeat (first | exact Below.refl _ _ | refine Below.alloc ?_ (by first | omega | (simp; try omega)) _ | refine Below.setCell ?_ (by first | omega | (simp; try omega)) _)) (hk.mono (by first | omega | (simp; try omega)))
      have v0 := v0.below hs
      have v1 := v1.below hs
      have v2 := v2.below hs
      have v3 := v3.below hs
      have v4 := v4.below hs
      have v5 := v5.below hs
      have v6 : Var W20 (W19.heap.size) [.int .i64 0, .int .i64 0, .int .i64 0, .int .i64 0] := Var.low ⟨by first | omega | (simp; try omega), by simp [Cel, go_sem]⟩ hk (by first | omega | (simp; try omega))
      obtain ⟨b6, hb6⟩ : ∃ b, W19.heap.size = b := ⟨_, rfl⟩
      have lob6 : w.heap.size ≤ b6 := by have := hB.size; omega
      rw [hb6] at v6
      try rw [hb6]
      have hB := hB.trans (hs.mono hB.size)
      clear cb5_0 cb5_1 cb5_2 cb5_3 cb0_0 cb0_1 cb0_2 hb6 hs hk ab5_0_1 ab5_1_1 ab5_2_1 ab5_3_1 ab0_0_1 ab0_1_1 ab0_2_1
      go_wp2_with fail
      refine (vec_l 1 1 2 _).mono ?_
      rintro e W21 ⟨rfl, hk⟩
      try simp only [V]
      have hs := hk
      have v0 := v0.below hs
      have v1 := v1.below hs
      have v2 := v2.below hs
      have v3 := v3.below hs
      have v4 := v4.below hs
      have v5 := v5.below hs
      have v6 := v6.below hs
      have hB := hB.trans (hs.mono hB.size)
      clear hs hk
      go_wp2_with fail
      refine (Gives.to (v := .int .i64 (rch 1 (-2) 3 1 1 2)) (u := .int .i64 9) (by kernel_rfl) (reach_p 1 (-2) 3 1 1 2 _)).mono ?_
      rintro e W22 ⟨rfl, hk⟩
      have hs := hk
      have v0 := v0.below hs
      have v1 := v1.below hs
      have v2 := v2.below hs
      have v3 := v3.below hs
      have v4 := v4.below hs
      have v5 := v5.below hs
      have v6 := v6.below hs
      have hB := hB.trans (hs.mono hB.size)
      clear hs hk
      go_wp2_with fail
      refine wp_region_dag (by kernel_rfl) ?_
      intro W23 hk
      have hs := hk
      have v0 := v0.below hs
      have v1 := v1.below hs
      have v2 := v2.below hs
      have v3 := v3.below hs
      have v4 := v4.below hs
      have v5 := v5.below hs
      have v6 := v6.below hs
      have hB := hB.trans (hs.mono hB.size)
      clear hs hk
      refine dagV (fun _ => trivial) 27 ?hn (fun X => ⟨#[X 26, .pointer (some ⟨b0, 0, none⟩), .pointer (some ⟨b1, 0, none⟩), .pointer (some ⟨b2, 0, none⟩), .bool true, .bool true, .pointer (some ⟨b3, 0, none⟩), .bool true, .pointer (some ⟨b4, 0, none⟩), .bool false, .bool true, .pointer (some ⟨b5, 0, none⟩), .bool true, .pointer (some ⟨b6, 0, none⟩), .bool false, .bool true, .agg #[.int .i64 1, .int .i64 0, .int .i64 0], .agg #[.int .i64 0, .int .i64 1, .int .i64 0], .agg #[.int .i64 0, .int .i64 0, .int .i64 1], X2_ 0, X2_ 1, X2_ 2, X2_ 3, X2_ 4, X2_ 5, X2_ 6, X2_ 7, X2_ 8, X2_ 9, X2_ 10, X2_ 11, X2_ 12, X2_ 13, X2_ 14, X2_ 15, X2_ 16, X2_ 17, X2_ 18, X2_ 19, X2_ 20, X2_ 21, X2_ 22, X2_ 23, X2_ 24, X2_ 25, X2_ 26, X2_ 27, X2_ 28, .agg #[.int .i64 2, .int .i64 4, .int .i64 0], .agg #[.int .i64 2, .int .i64 4, .int .i64 0, .int .i64 1], .bool false, .bool true, .bool true, .agg #[.int .i64 1, .int .i64 4609, .int .i64 0], .agg #[.int .i64 1, .int .i64 4609, .int .i64 0, .int .i64 0], .bool false, .bool true, .bool true, .bool true, .agg #[.int .i64 1, .int .i64 0, .int .i64 0], .agg #[.int .i64 1, .int .i64 0, .int .i64 0, .int .i64 2097152], .bool true, .bool true, .tuple #[.agg #[.int .i64 1, .int .i64 1, .int .i64 1, .int .i64 1], .bool true], .agg #[.int .i64 1, .int .i64 0, .int .i64 0], .agg #[.int .i64 0, .int .i64 1, .int .i64 0], .agg #[.int .i64 0, .int .i64 0, .int .i64 1], .tuple #[.agg #[.int .i64 1, .int .i64 1, .int .i64 1, .int .i64 1], .bool true], .agg #[.int .i64 1, .int .i64 1, .int .i64 1, .int .i64 1], .bool true, .tuple #[.agg #[.int .i64 0, .int .i64 0, .int .i64 0, .int .i64 0], .bool false], .agg #[.int .i64 0, .int .i64 0, .int .i64 0], .agg #[.int .i64 1, .int .i64 1, .int .i64 1], .agg #[.int .i64 2, .int .i64 2, .int .i64 2], .tuple #[.agg #[.int .i64 0, .int .i64 0, .int .i64 0, .int .i64 0], .bool false], .agg #[.int .i64 0, .int .i64 0, .int .i64 0, .int .i64 0], .bool false, X6_ 0, X6_ 1, X6_ 2, X6_ 3, X6_ 4, X6_ 5, X6_ 6, X6_ 7, X6_ 8, X6_ 9, X6_ 10, X6_ 11, X6_ 12, X6_ 13, X6_ 14, X6_ 15, X6_ 16, X6_ 17, X6_ 18, X6_ 19, X6_ 20, X6_ 21, X6_ 22, X6_ 23, X6_ 24, X6_ 25, X6_ 26, X6_ 27, X6_ 28, .tuple #[.agg #[.int .i64 1, .int .i64 0, .int .i64 0, .int .i64 (-2)], .bool true], .agg #[.int .i64 1, .int .i64 0, .int .i64 0], .agg #[.int .i64 1, .int .i64 0, .int .i64 0, .int .i64 5], .tuple #[.agg #[.int .i64 1, .int .i64 0, .int .i64 0, .int .i64 (-2)], .bool true], .agg #[.int .i64 1, .int .i64 0, .int .i64 0, .int .i64 (-2)], .bool true, .tuple #[.agg #[.int .i64 0, .int .i64 0, .int .i64 0, .int .i64 0], .bool false], .agg #[.int .i64 1, .int .i64 0, .int .i64 0], .agg #[.int .i64 1, .int .i64 0, .int .i64 0, .int .i64 2097152], .tuple #[.agg #[.int .i64 0, .int .i64 0, .int .i64 0, .int .i64 0], .bool false], .agg #[.int .i64 0, .int .i64 0, .int .i64 0, .int .i64 0], .bool false, .bool true, .bool true, .agg #[.int .i64 1, .int .i64 0, .int .i64 0, .int .i64 (-2)], .agg #[.int .i64 1, .int .i64 0, .int .i64 0], .agg #[.int .i64 1, .int .i64 0, .int .i64 0, .int .i64 (-2)], .bool true, .bool true, .bool true, .bool false, .bool true, .bool true, .bool true, .agg #[.int .i64 1, .int .i64 (-2), .int .i64 3], .agg #[.int .i64 1, .int .i64 1, .int .i64 2], .int .i64 9, .bool true, .bool true, X 0, X 1, X 2, X 3, X 4, X 5, X 6, X 7, X 8, X 9, X 10, X 11, X 12, X 13, X 14, X 15, X 16, X 17, X 18, X 19, X 20, X 21, X 22, X 23, X 24, X 25], []⟩) [(0, 0, 0), (0, 0, 0), (0, 0, 0), (0, 0, 0), (0, 0, 0), (0, 0, 0), (0, 0, 0), (0, 0, 0), (0, 0, 0), (0, 0, 0), (0, 0, 0), (0, 0, 0), (0, 0, 0), (0, 0, 0), (0, 0, 0), (0, 0, 0), (0, 0, 0), (0, 0, 0), (0, 0, 0), (0, 0, 0), (0, 0, 0), (0, 0, 0), (0, 0, 0), (0, 0, 0), (0, 0, 0), (0, 0, 0), (0, 0, 0)] (fun _ => []) [.val (.bool true), .val (.bool true), .val (.bool true), .val (.bool true), .val (.bool true), .val (.bool true), .val (.bool true), .val (.bool true), .val (.bool true), .val (.bool true), .val (.bool true), .val (.agg #[.int .i64 1, .int .i64 0, .int .i64 0]), .val (.agg #[.int .i64 1, .int .i64 0, .int .i64 0, .int .i64 5]), .val (.agg #[.int .i64 1, .int .i64 0, .int .i64 0]), .val (.agg #[.int .i64 1, .int .i64 0, .int .i64 0, .int .i64 7]), .val (.int .i64 (-1)), .val (.bool true), .val (.bool true), .val (.bool true), .val (.agg #[.int .i64 1, .int .i64 0, .int .i64 0]), .val (.agg #[.int .i64 1, .int .i64 0, .int .i64 0, .int .i64 5]), .val (.agg #[.int .i64 0, .int .i64 9, .int .i64 9]), .val (.agg #[.int .i64 0, .int .i64 9, .int .i64 9, .int .i64 9]), .val (.int .i64 1), .val (.bool true), .val (.bool true), .val (.bool true)] [[], [0], [1], [1, 2], [3], [4], [4, 5], [6], [7], [7, 8], [9], [10], [10, 11], [10], [10, 13], [10, 12, 14], [10, 15], [10, 16], [17], [18], [18, 19], [18], [18, 21], [18, 20, 22], [18, 23], [18, 24], [25]] [0, 1, 2, 3, 4, 5, 6, 7, 8, 9, 10, 11, 12, 13, 14, 15, 16, 17, 18, 19, 20, 21, 22, 23, 24, 25, 26] [] [] [] (fun _ => 0) W23 (by kernel_rfl) (by kernel_rfl) (by kernel_rfl) (by kernel_rfl) (by kernel_rfl) ?dist ?olds ?op ?al ?st ?into ?fin (upd (fun _ => undef) 26 (.bool false)) _ _ (by kernel_rfl) (of_decide_eq_true (by kernel_rfl)) (of_decide_eq_true (by kernel_rfl))
      case hn => rfl
      case dist => intro i hi j hj; simp at hi hj; try omega
      case olds => exact nofun
      case op =>
        repeat' first | exact Each.nil | refine Each.cons ?_ ?_
        all_goals intro X w7 H hb hD h
        · refine tv rfl (by rfl) ?_ (by exact h _ w7 rfl (Below.refl _ _))
          go_simp <;> first | rfl | (simp only [IntWalk.i64_left]; rfl)
        · have e0_ : X 0 = _ := hD 0 (by decide) rfl
          refine tv rfl (by simp only [e0_]; rfl) ?_ (by exact h _ w7 rfl (Below.refl _ _))
          simp only [e0_]; go_simp <;> first | rfl | (simp only [IntWalk.i64_left]; rfl)
        · have e1_ : X 1 = _ := hD 1 (by decide) rfl
          refine tv rfl (by simp only [e1_]; rfl) ?_ (by exact h _ w7 rfl (Below.refl _ _))
          simp only [e1_]; go_simp <;> first | rfl | (simp only [IntWalk.i64_left]; rfl)
        · have e1_ : X 1 = _ := hD 1 (by decide) rfl
          have e2_ : X 2 = _ := hD 2 (by decide) rfl
          refine tv rfl (by simp only [e1_, e2_]; rfl) ?_ (by exact h _ w7 rfl (Below.refl _ _))
          simp only [e1_, e2_]; go_simp <;> first | rfl | (simp only [IntWalk.i64_left]; rfl)
        · have e3_ : X 3 = _ := hD 3 (by decide) rfl
          refine tv rfl (by simp only [e3_]; rfl) ?_ (by exact h _ w7 rfl (Below.refl _ _))
          simp only [e3_]; go_simp <;> first | rfl | (simp only [IntWalk.i64_left]; rfl)
        · have e4_ : X 4 = _ := hD 4 (by decide) rfl
          refine tv rfl (by simp only [e4_]; rfl) ?_ (by exact h _ w7 rfl (Below.refl _ _))
          simp only [e4_]; go_simp <;> first | rfl | (simp only [IntWalk.i64_left]; rfl)
        · have e4_ : X 4 = _ := hD 4 (by decide) rfl
          have e5_ : X 5 = _ := hD 5 (by decide) rfl
          refine tv rfl (by simp only [e4_, e5_]; rfl) ?_ (by exact h _ w7 rfl (Below.refl _ _))
          simp only [e4_, e5_]; go_simp <;> first | rfl | (simp only [IntWalk.i64_left]; rfl)
        · have e6_ : X 6 = _ := hD 6 (by decide) rfl
          refine tv rfl (by simp only [e6_]; rfl) ?_ (by exact h _ w7 rfl (Below.refl _ _))
          simp only [e6_]; go_simp <;> first | rfl | (simp only [IntWalk.i64_left]; rfl)
        · have e7_ : X 7 = _ := hD 7 (by decide) rfl
          refine tv rfl (by simp only [e7_]; rfl) ?_ (by exact h _ w7 rfl (Below.refl _ _))
          simp only [e7_]; go_simp <;> first | rfl | (simp only [IntWalk.i64_left]; rfl)
        · have e7_ : X 7 = _ := hD 7 (by decide) rfl
          have e8_ : X 8 = _ := hD 8 (by decide) rfl
          refine tv rfl (by simp only [e7_, e8_]; rfl) ?_ (by exact h _ w7 rfl (Below.refl _ _))
          simp only [e7_, e8_]; go_simp <;> first | rfl | (simp only [IntWalk.i64_left]; rfl)
        · have e9_ : X 9 = _ := hD 9 (by decide) rfl
          refine tv rfl (by simp only [e9_]; rfl) ?_ (by exact h _ w7 rfl (Below.refl _ _))
          simp only [e9_]; go_simp <;> first | rfl | (simp only [IntWalk.i64_left]; rfl)
        · have e10_ : X 10 = _ := hD 10 (by decide) rfl
          have hv := v0.below (show Keep [] _ _ from hb).nil
          have c0_ := hv.at 0 rfl
          have c1_ := hv.at 1 rfl
          have c2_ := hv.at 2 rfl
          refine tv rfl (by simp only [e10_]; rfl) ?_ (by exact h _ w7 rfl (Below.refl _ _))
          simp only [e10_]; go_simp <;> first | rfl | (simp only [IntWalk.i64_left]; rfl)
        · have e10_ : X 10 = _ := hD 10 (by decide) rfl
          have e11_ : X 11 = _ := hD 11 (by decide) rfl
          refine tv rfl (by simp only [e10_, e11_]; rfl) ?_ (by exact h _ w7 rfl (Below.refl _ _))
          simp only [e10_, e11_]; go_simp <;> first | rfl | (simp only [IntWalk.i64_left]; rfl)
        · have e10_ : X 10 = _ := hD 10 (by decide) rfl
          have hv := v0.below (show Keep [] _ _ from hb).nil
          have c0_ := hv.at 0 rfl
          have c1_ := hv.at 1 rfl
          have c2_ := hv.at 2 rfl
          refine tv rfl (by simp only [e10_]; rfl) ?_ (by exact h _ w7 rfl (Below.refl _ _))
          simp only [e10_]; go_simp <;> first | rfl | (simp only [IntWalk.i64_left]; rfl)
        · have e10_ : X 10 = _ := hD 10 (by decide) rfl
          have e13_ : X 13 = _ := hD 13 (by decide) rfl
          refine tv rfl (by simp only [e10_, e13_]; rfl) ?_ (by exact h _ w7 rfl (Below.refl _ _))
          simp only [e10_, e13_]; go_simp <;> first | rfl | (simp only [IntWalk.i64_left]; rfl)
        · have e10_ : X 10 = _ := hD 10 (by decide) rfl
          have e12_ : X 12 = _ := hD 12 (by decide) rfl
          have e14_ : X 14 = _ := hD 14 (by decide) rfl
          refine wpOp_call (i := 15) (f := 37) (args := #[.agg #[.int .i64 1, .int .i64 0, .int .i64 0, .int .i64 5], .agg #[.int .i64 1, .int .i64 0, .int .i64 0, .int .i64 7]]) 150 rfl rfl (by simp only [e10_, e12_, e14_]; rfl) (by simp only [e10_, e12_, e14_]; go_simp) ?_
          refine (Gives.to (v := .int .i64 (ordL [(1, 1), (0, 0), (0, 0), (5, 7)])) (u := .int .i64 (-1)) (by kernel_rfl) (compare_p 1 0 0 5 1 0 0 7 _)).mono ?_
          rintro e w8 ⟨rfl, hk⟩
          exact ⟨_, rfl, h _ w8 rfl hk⟩
        · have e10_ : X 10 = _ := hD 10 (by decide) rfl
          have e15_ : X 15 = _ := hD 15 (by decide) rfl
          refine tv rfl (by simp only [e10_, e15_]; rfl) ?_ (by exact h _ w7 rfl (Below.refl _ _))
          simp only [e10_, e15_]; go_simp <;> first | rfl | (simp only [IntWalk.i64_left]; rfl)
        · have e10_ : X 10 = _ := hD 10 (by decide) rfl
          have e16_ : X 16 = _ := hD 16 (by decide) rfl
          refine tv rfl (by simp only [e10_, e16_]; rfl) ?_ (by exact h _ w7 rfl (Below.refl _ _))
          simp only [e10_, e16_]; go_simp <;> first | rfl | (simp only [IntWalk.i64_left]; rfl)
        · have e17_ : X 17 = _ := hD 17 (by decide) rfl
          refine tv rfl (by simp only [e17_]; rfl) ?_ (by exact h _ w7 rfl (Below.refl _ _))
          simp only [e17_]; go_simp <;> first | rfl | (simp only [IntWalk.i64_left]; rfl)
        · have e18_ : X 18 = _ := hD 18 (by decide) rfl
          have hv := v0.below (show Keep [] _ _ from hb).nil
          have c0_ := hv.at 0 rfl
          have c1_ := hv.at 1 rfl
          have c2_ := hv.at 2 rfl
          refine tv rfl (by simp only [e18_]; rfl) ?_ (by exact h _ w7 rfl (Below.refl _ _))
          simp only [e18_]; go_simp <;> first | rfl | (simp only [IntWalk.i64_left]; rfl)
        · have e18_ : X 18 = _ := hD 18 (by decide) rfl
          have e19_ : X 19 = _ := hD 19 (by decide) rfl
          refine tv rfl (by simp only [e18_, e19_]; rfl) ?_ (by exact h _ w7 rfl (Below.refl _ _))
          simp only [e18_, e19_]; go_simp <;> first | rfl | (simp only [IntWalk.i64_left]; rfl)
        · have e18_ : X 18 = _ := hD 18 (by decide) rfl
          refine wpOp_call (i := 21) (f := 12) (args := #[.int .i64 0, .int .i64 9, .int .i64 9]) 156 rfl rfl (by simp only [e18_]; rfl) (by simp only [e18_]; go_simp) ?_
          refine (vec_l 0 9 9 _).mono ?_
          rintro e w8 ⟨rfl, hk⟩
          exact ⟨_, rfl, h _ w8 rfl hk⟩
        · have e18_ : X 18 = _ := hD 18 (by decide) rfl
          have e21_ : X 21 = _ := hD 21 (by decide) rfl
          refine tv rfl (by simp only [e18_, e21_]; rfl) ?_ (by exact h _ w7 rfl (Below.refl _ _))
          simp only [e18_, e21_]; go_simp <;> first | rfl | (simp only [IntWalk.i64_left]; rfl)
        · have e18_ : X 18 = _ := hD 18 (by decide) rfl
          have e20_ : X 20 = _ := hD 20 (by decide) rfl
          have e22_ : X 22 = _ := hD 22 (by decide) rfl
          refine wpOp_call (i := 23) (f := 37) (args := #[.agg #[.int .i64 1, .int .i64 0, .int .i64 0, .int .i64 5], .agg #[.int .i64 0, .int .i64 9, .int .i64 9, .int .i64 9]]) 158 rfl rfl (by simp only [e18_, e20_, e22_]; rfl) (by simp only [e18_, e20_, e22_]; go_simp) ?_
          refine (Gives.to (v := .int .i64 (ordL [(1, 0), (0, 9), (0, 9), (5, 9)])) (u := .int .i64 1) (by kernel_rfl) (compare_p 1 0 0 5 0 9 9 9 _)).mono ?_
          rintro e w8 ⟨rfl, hk⟩
          exact ⟨_, rfl, h _ w8 rfl hk⟩
        · have e18_ : X 18 = _ := hD 18 (by decide) rfl
          have e23_ : X 23 = _ := hD 23 (by decide) rfl
          refine tv rfl (by simp only [e18_, e23_]; rfl) ?_ (by exact h _ w7 rfl (Below.refl _ _))
          simp only [e18_, e23_]; go_simp <;> first | rfl | (simp only [IntWalk.i64_left]; rfl)
        · have e18_ : X 18 = _ := hD 18 (by decide) rfl
          have e24_ : X 24 = _ := hD 24 (by decide) rfl
          refine tv rfl (by simp only [e18_, e24_]; rfl) ?_ (by exact h _ w7 rfl (Below.refl _ _))
          simp only [e18_, e24_]; go_simp <;> first | rfl | (simp only [IntWalk.i64_left]; rfl)
        · have e25_ : X 25 = _ := hD 25 (by decide) rfl
          refine tv rfl (by simp only [e25_]; rfl) ?_ (by exact h _ w7 rfl (Below.refl _ _))
          simp only [e25_]; go_simp <;> first | rfl | (simp only [IntWalk.i64_left]; rfl)
      case al => exact Each.nil
      case st => exact Each.nil
      case into => exact Each.nil
      case fin =>
        intro X10_ W24 hI
        have hE : Keep [] W23 W24 := hI.keep
        have e26_ : X10_ 26 = _ := hI.fact 26 (by decide) rfl rfl
        have v0 := v0.below hE.nil
        have v1 := v1.below hE.nil
        have v2 := v2.below hE.nil
        have v3 := v3.below hE.nil
        have v4 := v4.below hE.nil
        have v5 := v5.below hE.nil
        have v6 := v6.below hE.nil
        have hB := hB.trans (hE.nil.mono hB.size)
        simp only [e26_]
        clear e26_ hI hE
        go_wp2_with fail
        have hBs := hB.size
        go_ret
        exact ⟨rfl, by repeat (first | exact hB | refine Below.alloc ?_ (by first | omega | (simp; try omega)) _ | refine Below.setCell ?_ (by first | omega | (simp; try omega)) _)⟩

end Go.Proofs.Ytblnpelbklfloaa
