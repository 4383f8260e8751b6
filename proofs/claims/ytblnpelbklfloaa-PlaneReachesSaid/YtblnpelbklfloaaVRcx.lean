/- The law PlaneReaches, one of three kinds of lists. -/
import Derived.Test.YtblnpelbklfloaaVRcp
namespace Go.Proofs.Ytblnpelbklfloaa
open Go.RowKit

set_option maxRecDepth 100000 in
set_option maxHeartbeats 16000000 in
theorem rch_le (a0 a1 : Option Addr) (len0 len1 m0 m1 cap0 cap1 : Nat) (ad : Addr) (len cap : Nat) (hlen : len ≤ 9223372036854775807) (hl1_ : (len : Int) ≤ 16) (hl2_ : (len : Int) ≤ (cap : Int)) (e0 e1 e2 g0 g1 g2 : Nat) (he0 : e0 < 256) (he1 : e1 < 256) (he2 : e2 < 256) (hg0 : g0 < 256) (hg1 : g1 < 256) (hg2 : g2 < 256)
    (hz0 : len0 ≤ 9223372036854775807) (hz1 : len1 ≤ 9223372036854775807) (hm0 : m0 ≤ len0) (hm1 : m1 ≤ len1) (hmin0 : Hid ((if 12 < (len0 : Int) then 12 else (len0 : Int)) = (m0 : Int))) (hmin1 : Hid ((if 12 < (len1 : Int) then 12 else (len1 : Int)) = (m1 : Int))) (ho0 : Hid (Head a0 len0 m0 cap0)) (ho1 : Hid (Head a1 len1 m1 cap1)) (w : World) (hl0 : Lst w a0 len0 w.heap.size) (hl1 : Lst w a1 len1 w.heap.size) (hl2 : Lst w (some ad) len w.heap.size) :
    Calls Try.prog 9 #[.agg #[.slice a0 len0 cap0, .slice a1 len1 cap1], .slice (some ad) len cap, .agg #[.int .u8 (e0 : Int), .int .u8 (e1 : Int), .int .u8 (e2 : Int)], .agg #[.int .u8 (g0 : Int), .int .u8 (g1 : Int), .int .u8 (g2 : Int)]] w (Gives w (.bool true)) := by
  go_enter Try.func9, Try.ntmps9
  have hB := Below.refl w.heap.size w
  go_wp2_with fail
  refine (sanity_true _).mono ?_
  rintro e W1 ⟨rfl, hk⟩
  have hs : Below w.heap.size w W1 := Below.trans (by repeat (first | exact Below.refl _ _ | refine Below.alloc ?_ (by first | omega | (simp; try omega)) _ | refine Below.setCell ?_ (by first | omega | (simp; try omega)) _)) (hk.mono (by first | omega | (simp; try omega)))
  have hl0 := hl0.below hs
  have hl1 := hl1.below hs
  have hl2 := hl2.below hs
  have v0 : Var W1 (w.heap.size) [.slice a0 len0 cap0, .slice a1 len1 cap1] := Var.low ⟨by first | omega | (simp; try omega), by simp [Cel, go_sem]⟩ hk (by first | omega | (simp; try omega))
  have v1 : Var W1 (w.heap.size + 1) [.int .u8 (e0 : Int), .int .u8 (e1 : Int), .int .u8 (e2 : Int)] := Var.low ⟨by first | omega | (simp; try omega), by simp [Cel, go_sem]⟩ hk (by first | omega | (simp; try omega))
  have v2 : Var W1 (w.heap.size + 1 + 1) [.int .u8 (g0 : Int), .int .u8 (g1 : Int), .int .u8 (g2 : Int)] := Var.low ⟨by first | omega | (simp; try omega), by simp [Cel, go_sem]⟩ hk (by first | omega | (simp; try omega))
  obtain ⟨b2, hb2⟩ : ∃ b, w.heap.size + 1 + 1 = b := ⟨_, rfl⟩
  have lob2 : w.heap.size ≤ b2 := by have := hB.size; omega
  obtain ⟨b1, hb1⟩ : ∃ b, w.heap.size + 1 = b := ⟨_, rfl⟩
  have lob1 : w.heap.size ≤ b1 := by have := hB.size; omega
  obtain ⟨b0, hb0⟩ : ∃ b, w.heap.size = b := ⟨_, rfl⟩
  have lob0 : w.heap.size ≤ b0 := by have := hB.size; omega
  rw [hb2] at v2
  try rw [hb2]
  rw [hb1] at v1
  try rw [hb1]
  rw [hb0] at v0
  try rw [hb0]
  have hB := hB.trans (hs.mono hB.size)
  clear hb0 hb1 hb2 hs hk
  go_wp2_with fail
  refine wp_region_dag (by kernel_rfl) ?_
  intro W2 hk
  have hs := hk
  have v0 := v0.below hs
  have v1 := v1.below hs
  have v2 := v2.below hs
  have hl0 := hl0.below hs
  have hl1 := hl1.below hs
  have hl2 := hl2.below hs
  have hB := hB.trans (hs.mono hB.size)
  clear hs hk
  refine dagV (fun _ => trivial) 20 ?hn (fun X => ⟨#[.agg #[.slice a0 len0 cap0, .slice a1 len1 cap1], .slice (some ad) len cap, .agg #[.int .u8 (e0 : Int), .int .u8 (e1 : Int), .int .u8 (e2 : Int)], .agg #[.int .u8 (g0 : Int), .int .u8 (g1 : Int), .int .u8 (g2 : Int)], .pointer (some ⟨b0, 0, none⟩), undef, .pointer (some ⟨b1, 0, none⟩), .pointer (some ⟨b2, 0, none⟩), .bool false, .bool true, X 16, X 17, undef, undef, undef, undef, undef, undef, undef, undef, undef, undef, undef, undef, .bool true, X 0, X 1, X 2, X 3, X 4, X 5, X 6, X 7, X 8, X 9, X 10, X 11, X 12, X 13, X 14, X 15, undef, undef, undef, undef, undef, undef, undef, undef, undef, undef, undef, undef, undef, undef, undef, undef, undef, undef, undef, undef, undef, undef, undef, undef, undef, undef, undef, undef, undef, undef, undef, undef, undef, undef, undef, undef, undef, undef, undef, undef, undef, undef, undef, undef, undef, undef, undef, undef, undef, undef, undef, undef, undef, undef, undef, undef, undef, undef, undef, undef, undef, undef, undef, undef, undef, undef, undef, undef, undef, undef, undef, undef, undef, undef, undef, undef, undef, undef, undef, undef, undef, undef, undef, undef, undef, undef, undef, undef, undef, undef, undef, undef, undef, undef, undef, undef, undef, undef, undef, undef, undef, undef, undef, undef, undef, undef, undef, undef, undef, undef, undef, undef, undef, undef, undef, undef, undef, undef, undef, undef, undef, undef, undef, undef, undef, undef, undef, undef, undef, undef, undef, undef, undef, undef, undef, undef, undef, undef, undef, undef, undef, undef, undef, undef, undef, undef, undef, undef, undef, undef, undef, undef, undef, undef, undef, undef, undef, undef, undef, undef, undef, undef, undef, undef, undef, undef, undef, undef, undef, undef, undef, undef, undef, undef, undef, undef, undef, undef, undef, undef, undef, undef, undef, undef, undef, undef, undef, undef, undef, undef, undef, undef, undef], []⟩) [(0, 0, 0), (0, 0, 0), (0, 0, 0), (0, 0, 0), (0, 0, 0), (0, 0, 0), (0, 0, 0), (0, 0, 0), (0, 0, 0), (0, 0, 0), (0, 0, 0), (0, 0, 0), (0, 0, 0), (0, 0, 0), (0, 0, 0), (0, 0, 0), (1, 18, 7), (1, 19, 15), (3, 16, 7), (3, 17, 15)] (fun i => ([[], [], [], [], [], [], [], [], [], [], [], [], [], [], [], [], [.int .i64 0, .int .i64 0, .int .i64 0, .int .i64 0], [.int .i64 0, .int .i64 0, .int .i64 0, .int .i64 0], [], []] : List (List Value)).getD i []) [.val (.pointer (some ⟨b0, 0, none⟩)), .val (.slice a0 len0 cap0), .val (.pointer (some ⟨b0, 0, none⟩)), .val (.slice a0 len0 cap0), .val (.int .i64 (len0 : Int)), .val (.int .i64 (m0 : Int)), .val (.slice a0 m0 cap0), .is MadeV, .val (.pointer (some ⟨b0, 1, none⟩)), .val (.slice a1 len1 cap1), .val (.pointer (some ⟨b0, 1, none⟩)), .val (.slice a1 len1 cap1), .val (.int .i64 (len1 : Int)), .val (.int .i64 (m1 : Int)), .val (.slice a1 m1 cap1), .is MadeV, .none, .none, .none, .none] [[], [0], [], [2], [3], [4], [1, 5], [6], [], [8], [], [10], [11], [12], [9, 13], [14], [], [], [7, 16], [15, 17]] [0, 1, 2, 3, 4, 5, 6, 7, 8, 9, 10, 11, 12, 13, 14, 15] [16, 17] [18, 19] [] (fun i => ([0, 0, 0, 0, 0, 0, 0, 0, 0, 0, 0, 0, 0, 0, 0, 0, 39, 39, 0, 0] : List TypeId).getD i 0) W2 (by kernel_rfl) (by kernel_rfl) (by kernel_rfl) (by kernel_rfl) (by kernel_rfl) ?dist ?olds ?op ?al ?st ?into ?fin (fun _ => undef) _ _ (by kernel_rfl) (of_decide_eq_true (by kernel_rfl)) (of_decide_eq_true (by kernel_rfl))
  case hn => rfl
  case dist => intro i hi j hj; simp at hi hj; try omega
  case olds => exact nofun
  case op =>
    repeat' first | exact Each.nil | refine Each.cons ?_ ?_
    all_goals intro X w7 H hb hD h
    · refine tv rfl (by rfl) ?_ (by exact h _ w7 rfl (Below.refl _ _))
      go_simp <;> first | rfl | (simp only [IntWalk.i64_left]; rfl) | (simp only [IntWalk.i64_left, *]; done) | (simp only [IntWalk.i64_left, *]; rfl)
    · have e0_ : X 0 = _ := hD 0 (by decide) rfl
      have hv := v0.below (show Keep [] _ _ from hb).nil
      have c0_ := hv.at 0 rfl
      refine tv rfl (by simp only [e0_]; rfl) ?_ (by exact h _ w7 rfl (Below.refl _ _))
      simp only [e0_]; go_simp <;> first | rfl | (simp only [IntWalk.i64_left]; rfl) | (simp only [IntWalk.i64_left, *]; done) | (simp only [IntWalk.i64_left, *]; rfl)
    · refine tv rfl (by rfl) ?_ (by exact h _ w7 rfl (Below.refl _ _))
      go_simp <;> first | rfl | (simp only [IntWalk.i64_left]; rfl) | (simp only [IntWalk.i64_left, *]; done) | (simp only [IntWalk.i64_left, *]; rfl)
    · have e2_ : X 2 = _ := hD 2 (by decide) rfl
      have hv := v0.below (show Keep [] _ _ from hb).nil
      have c0_ := hv.at 0 rfl
      refine tv rfl (by simp only [e2_]; rfl) ?_ (by exact h _ w7 rfl (Below.refl _ _))
      simp only [e2_]; go_simp <;> first | rfl | (simp only [IntWalk.i64_left]; rfl) | (simp only [IntWalk.i64_left, *]; done) | (simp only [IntWalk.i64_left, *]; rfl)
    · have e3_ : X 3 = _ := hD 3 (by decide) rfl
      refine tv rfl (by simp only [e3_]; rfl) ?_ (by exact h _ w7 rfl (Below.refl _ _))
      simp only [e3_]; go_simp <;> first | rfl | (simp only [IntWalk.i64_left]; rfl) | (simp only [IntWalk.i64_left, *]; done) | (simp only [IntWalk.i64_left, *]; rfl)
    · have e4_ : X 4 = _ := hD 4 (by decide) rfl
      refine tv rfl (by simp only [e4_]; rfl) ?_ (by exact h _ w7 rfl (Below.refl _ _))
      have hmin_ := hmin0.out
      simp only [e4_]; go_simp
      first | rfl | exact congrArg (Value.int .i64) hmin_
    · have e1_ : X 1 = _ := hD 1 (by decide) rfl
      have e5_ : X 5 = _ := hD 5 (by decide) rfl
      refine tv rfl (by simp only [e1_, e5_]; rfl) ?_ (by exact h _ w7 rfl (Below.refl _ _))
      rcases ho0.out with ⟨ad_, rfl, hq_⟩ | ⟨rfl, rfl, rfl, rfl⟩
      all_goals (simp only [e1_, e5_]; go_simp <;> first | rfl | (simp only [IntWalk.i64_left]; rfl) | (simp only [IntWalk.i64_left, *]; done) | (simp only [IntWalk.i64_left, *]; rfl))
    · have e6_ : X 6 = _ := hD 6 (by decide) rfl
      have hl0 := hl0.below (show Keep [] _ _ from hb).nil
      have hl1 := hl1.below (show Keep [] _ _ from hb).nil
      have hl2 := hl2.below (show Keep [] _ _ from hb).nil
      refine wpOp_call (i := 7) (f := 27) (args := #[.slice a0 m0 cap0]) 32 rfl rfl (by simp only [e6_]; rfl) (by simp only [e6_]; go_simp) ?_
      refine (made_v a0 m0 cap0 (by omega) _ (hl0.mono (Nat.le_trans hB.size (show Keep [] _ _ from hb).nil.size) (by omega))).mono ?_
      rintro e w8 ⟨x_, y_, z_, b_, rfl, hm_, hk⟩
      exact ⟨_, rfl, h _ w8 ⟨x_, y_, z_, b_, rfl, hideV hm_⟩ hk⟩
    · refine tv rfl (by rfl) ?_ (by exact h _ w7 rfl (Below.refl _ _))
      go_simp <;> first | rfl | (simp only [IntWalk.i64_left]; rfl) | (simp only [IntWalk.i64_left, *]; done) | (simp only [IntWalk.i64_left, *]; rfl)
    · have e8_ : X 8 = _ := hD 8 (by decide) rfl
      have hv := v0.below (show Keep [] _ _ from hb).nil
      have c0_ := hv.at 1 rfl
      refine tv rfl (by simp only [e8_]; rfl) ?_ (by exact h _ w7 rfl (Below.refl _ _))
      simp only [e8_]; go_simp <;> first | rfl | (simp only [IntWalk.i64_left]; rfl) | (simp only [IntWalk.i64_left, *]; done) | (simp only [IntWalk.i64_left, *]; rfl)
    · refine tv rfl (by rfl) ?_ (by exact h _ w7 rfl (Below.refl _ _))
      go_simp <;> first | rfl | (simp only [IntWalk.i64_left]; rfl) | (simp only [IntWalk.i64_left, *]; done) | (simp only [IntWalk.i64_left, *]; rfl)
    · have e10_ : X 10 = _ := hD 10 (by decide) rfl
      have hv := v0.below (show Keep [] _ _ from hb).nil
      have c0_ := hv.at 1 rfl
      refine tv rfl (by simp only [e10_]; rfl) ?_ (by exact h _ w7 rfl (Below.refl _ _))
      simp only [e10_]; go_simp <;> first | rfl | (simp only [IntWalk.i64_left]; rfl) | (simp only [IntWalk.i64_left, *]; done) | (simp only [IntWalk.i64_left, *]; rfl)
    · have e11_ : X 11 = _ := hD 11 (by decide) rfl
      refine tv rfl (by simp only [e11_]; rfl) ?_ (by exact h _ w7 rfl (Below.refl _ _))
      simp only [e11_]; go_simp <;> first | rfl | (simp only [IntWalk.i64_left]; rfl) | (simp only [IntWalk.i64_left, *]; done) | (simp only [IntWalk.i64_left, *]; rfl)
    · have e12_ : X 12 = _ := hD 12 (by decide) rfl
      refine tv rfl (by simp only [e12_]; rfl) ?_ (by exact h _ w7 rfl (Below.refl _ _))
      have hmin_ := hmin1.out
      simp only [e12_]; go_simp
      first | rfl | exact congrArg (Value.int .i64) hmin_
    · have e9_ : X 9 = _ := hD 9 (by decide) rfl
      have e13_ : X 13 = _ := hD 13 (by decide) rfl
      refine tv rfl (by simp only [e9_, e13_]; rfl) ?_ (by exact h _ w7 rfl (Below.refl _ _))
      rcases ho1.out with ⟨ad_, rfl, hq_⟩ | ⟨rfl, rfl, rfl, rfl⟩
      all_goals (simp only [e9_, e13_]; go_simp <;> first | rfl | (simp only [IntWalk.i64_left]; rfl) | (simp only [IntWalk.i64_left, *]; done) | (simp only [IntWalk.i64_left, *]; rfl))
    · have e14_ : X 14 = _ := hD 14 (by decide) rfl
      have hl0 := hl0.below (show Keep [] _ _ from hb).nil
      have hl1 := hl1.below (show Keep [] _ _ from hb).nil
      have hl2 := hl2.below (show Keep [] _ _ from hb).nil
      refine wpOp_call (i := 15) (f := 27) (args := #[.slice a1 m1 cap1]) 40 rfl rfl (by simp only [e14_]; rfl) (by simp only [e14_]; go_simp) ?_
      refine (made_v a1 m1 cap1 (by omega) _ (hl1.mono (Nat.le_trans hB.size (show Keep [] _ _ from hb).nil.size) (by omega))).mono ?_
      rintro e w8 ⟨x_, y_, z_, b_, rfl, hm_, hk⟩
      exact ⟨_, rfl, h _ w8 ⟨x_, y_, z_, b_, rfl, hideV hm_⟩ hk⟩
  case al =>
    repeat' first | exact Each.nil | refine Each.cons ?_ ?_
    all_goals exact fun X w7 H h => wpOp_run rfl (by go_simp; exact h)
  case st =>
    repeat' first | exact Each.nil | refine Each.cons ?_ ?_
    all_goals intro X w7 H b hX hC hG h
    · replace hX : X 16 = .pointer (some ⟨b, 0, none⟩) := hX
      obtain ⟨p1, p2, p3, p4, e, jp⟩ : MadeV (X 7) := hG
      have c0_ := hC.at 0 rfl
      have z0_ := hC.fr 0 (by decide)
      have c1_ := hC.at 1 rfl
      have z1_ := hC.fr 1 (by decide)
      have c2_ := hC.at 2 rfl
      have z2_ := hC.fr 2 (by decide)
      have c3_ := hC.at 3 rfl
      have z3_ := hC.fr 3 (by decide)
      refine wpOp_run rfl ?_
      have h := h (by show _ = (vc (X 7)).length; rw [e]; rfl)
      simp only [hX] at h ⊢
      replace h : H _ (putC b w7 0 (vc (X 7))) := h
      simp only [e] at h ⊢
      go_simp
      exact h
    · replace hX : X 17 = .pointer (some ⟨b, 0, none⟩) := hX
      obtain ⟨q1, q2, q3, q4, e, jq⟩ : MadeV (X 15) := hG
      have c0_ := hC.at 0 rfl
      have z0_ := hC.fr 0 (by decide)
      have c1_ := hC.at 1 rfl
      have z1_ := hC.fr 1 (by decide)
      have c2_ := hC.at 2 rfl
      have z2_ := hC.fr 2 (by decide)
      have c3_ := hC.at 3 rfl
      have z3_ := hC.fr 3 (by decide)
      refine wpOp_run rfl ?_
      have h := h (by show _ = (vc (X 15)).length; rw [e]; rfl)
      simp only [hX] at h ⊢
      replace h : H _ (putC b w7 0 (vc (X 15))) := h
      simp only [e] at h ⊢
      go_simp
      exact h
  case into => exact Each.nil
  case fin =>
    intro X2_ W3 hI
    have hE : Keep [] W2 W3 := hI.keep
    obtain ⟨p1, p2, p3, p4, e7_, jp⟩ : MadeV (X2_ 7) := hI.fact 7 (by decide) rfl rfl
    obtain ⟨q1, q2, q3, q4, e15_, jq⟩ : MadeV (X2_ 15) := hI.fact 15 (by decide) rfl rfl
    obtain ⟨b3, e16_, lob3, v3⟩ := hI.box 16 (by decide) rfl (by decide)
    replace v3 : Var W3 b3 (vc (X2_ 7)) := v3
    rw [e7_] at v3
    replace v3 : Var W3 b3 [.int .i64 p1, .int .i64 p2, .int .i64 p3, .int .i64 p4] := v3
    replace lob3 : w.heap.size ≤ b3 := Nat.le_trans hB.size lob3
    obtain ⟨b4, e17_, lob4, v4⟩ := hI.box 17 (by decide) rfl (by decide)
    replace v4 : Var W3 b4 (vc (X2_ 15)) := v4
    rw [e15_] at v4
    replace v4 : Var W3 b4 [.int .i64 q1, .int .i64 q2, .int .i64 q3, .int .i64 q4] := v4
    replace lob4 : w.heap.size ≤ b4 := Nat.le_trans hB.size lob4
    have v0 := v0.below hE.nil
    have v1 := v1.below hE.nil
    have v2 := v2.below hE.nil
    have hB := hB.trans (hE.nil.mono hB.size)
    have hl0 := hl0.below hE.nil
    have hl1 := hl1.below hE.nil
    have hl2 := hl2.below hE.nil
    simp only [e7_, e15_, e16_, e17_]
    clear e7_ e15_ e16_ e17_ hI hE
    clear hl0 hl1
    obtain ⟨h1, hh1, hb1⟩ : ∃ h : Nat, ((e0 : Nat) : Int) % 13 = (h : Int) ∧ h ≤ 12 := ⟨e0 % 13, by omega, by omega⟩
    obtain ⟨h2, hh2, hb2⟩ : ∃ h : Nat, ((e1 : Nat) : Int) % 13 = (h : Int) ∧ h ≤ 12 := ⟨e1 % 13, by omega, by omega⟩
    obtain ⟨h3, hh3, hb3⟩ : ∃ h : Nat, ((e2 : Nat) : Int) % 13 = (h : Int) ∧ h ≤ 12 := ⟨e2 % 13, by omega, by omega⟩
    have cb1_0 := v1.at 0 rfl
    have cb1_1 := v1.at 1 rfl
    have cb1_2 := v1.at 2 rfl
    go_wp2_with fail
    refine (vec_l (h1 : Int) (h2 : Int) (h3 : Int) _).mono ?_
    rintro e W4 ⟨rfl, hk⟩
    try simp only [V]
    have hs := hk
    have v0 := v0.below hs
    have v1 := v1.below hs
    have v2 := v2.below hs
    have v3 := v3.below hs
    have v4 := v4.below hs
    have hl2 := hl2.below hs
    have hB := hB.trans (hs.mono hB.size)
    clear cb1_0 cb1_1 cb1_2 hs hk
    go_wp2_with fail
    clear hh1 hh2 hh3
    obtain ⟨t1, u1, o1, d1, ft1, fu1, fz1, fo1, fd1, fn1⟩ := dif_one g0 h1 hg0 hb1
    have ft1 := hideV ft1
    have fu1 := hideV fu1
    have fz1 := hideV fz1
    have fo1 := hideV fo1
    have fd1 := hideV fd1
    have fn1 := hideV fn1
    obtain ⟨t2, u2, o2, d2, ft2, fu2, fz2, fo2, fd2, fn2⟩ := dif_one g1 h2 hg1 hb2
    have ft2 := hideV ft2
    have fu2 := hideV fu2
    have fz2 := hideV fz2
    have fo2 := hideV fo2
    have fd2 := hideV fd2
    have fn2 := hideV fn2
    obtain ⟨t3, u3, o3, d3, ft3, fu3, fz3, fo3, fd3, fn3⟩ := dif_one g2 h3 hg2 hb3
    have ft3 := hideV ft3
    have fu3 := hideV fu3
    have fz3 := hideV fz3
    have fo3 := hideV fo3
    have fd3 := hideV fd3
    have fn3 := hideV fn3
    refine wp_region_dag (by kernel_rfl) ?_
    intro W5 hk
    have hs : Below W4.heap.size W4 W5 := Below.trans (by repeat (first | exact Below.refl _ _ | refine Below.alloc ?_ (by first | omega | (simp; try omega)) _ | refine Below.setCell ?_ (by first | omega | (simp; try omega)) _)) (hk.mono (by first | omega | (simp; try omega)))
    have v0 := v0.below hs
    have v1 := v1.below hs
    have v2 := v2.below hs
    have v3 := v3.below hs
    have v4 := v4.below hs
    have hl2 := hl2.below hs
    have v5 : Var W5 (W4.heap.size) [.int .i64 (h1 : Int), .int .i64 (h2 : Int), .int .i64 (h3 : Int)] := Var.low ⟨by first | omega | (simp; try omega), by simp [Cel, go_sem]⟩ hk (by first | omega | (simp; try omega))
    obtain ⟨b5, hb5⟩ : ∃ b, W4.heap.size = b := ⟨_, rfl⟩
    have lob5 : w.heap.size ≤ b5 := by have := hB.size; omega
    rw [hb5] at v5
    try rw [hb5]
    have hB := hB.trans (hs.mono hB.size)
    clear hb5 hs hk
    refine dagV (fun _ => trivial) 36 ?hn (fun X => ⟨#[.agg #[.slice a0 len0 cap0, .slice a1 len1 cap1], .slice (some ad) len cap, .agg #[.int .u8 (e0 : Int), .int .u8 (e1 : Int), .int .u8 (e2 : Int)], .agg #[.int .u8 (g0 : Int), .int .u8 (g1 : Int), .int .u8 (g2 : Int)], .pointer (some ⟨b0, 0, none⟩), undef, .pointer (some ⟨b1, 0, none⟩), .pointer (some ⟨b2, 0, none⟩), .bool false, .bool true, .pointer (some ⟨b3, 0, none⟩), .pointer (some ⟨b4, 0, none⟩), .pointer (some ⟨b5, 0, none⟩), X 34, undef, undef, undef, undef, undef, undef, undef, undef, undef, undef, .bool true, X2_ 0, X2_ 1, X2_ 2, X2_ 3, X2_ 4, X2_ 5, X2_ 6, .agg #[.int .i64 p1, .int .i64 p2, .int .i64 p3, .int .i64 p4], X2_ 8, X2_ 9, X2_ 10, X2_ 11, X2_ 12, X2_ 13, X2_ 14, .agg #[.int .i64 q1, .int .i64 q2, .int .i64 q3, .int .i64 q4], .pointer (some ⟨b1, 0, none⟩), .int .u8 (e0 : Int), .int .i64 (e0 : Int), .int .i64 ((e0 : Int) % 13), .pointer (some ⟨b1, 1, none⟩), .int .u8 (e1 : Int), .int .i64 (e1 : Int), .int .i64 ((e1 : Int) % 13), .pointer (some ⟨b1, 2, none⟩), .int .u8 (e2 : Int), .int .i64 (e2 : Int), .int .i64 ((e2 : Int) % 13), .agg #[.int .i64 (h1 : Int), .int .i64 (h2 : Int), .int .i64 (h3 : Int)], X 0, X 1, X 2, X 3, X 4, X 5, X 6, X 7, X 8, X 9, X 10, X 11, X 12, X 13, X 14, X 15, X 16, X 17, X 18, X 19, X 20, X 21, X 22, X 23, X 24, X 25, X 26, X 27, X 28, X 29, X 30, X 31, X 32, X 33, undef, undef, undef, undef, undef, undef, undef, undef, undef, undef, undef, undef, undef, undef, undef, undef, undef, undef, undef, undef, undef, undef, undef, undef, undef, undef, undef, undef, undef, undef, undef, undef, undef, undef, undef, undef, undef, undef, undef, undef, undef, undef, undef, undef, undef, undef, undef, undef, undef, undef, undef, undef, undef, undef, undef, undef, undef, undef, undef, undef, undef, undef, undef, undef, undef, undef, undef, undef, undef, undef, undef, undef, undef, undef, undef, undef, undef, undef, undef, undef, undef, undef, undef, undef, undef, undef, undef, undef, undef, undef, undef, undef, undef, undef, undef, undef, undef, undef, undef, undef, undef, undef, undef, undef, undef, undef, undef, undef, undef, undef, undef, undef, undef, undef, undef, undef, undef, undef, undef, undef, undef, undef, undef, undef, undef, undef, undef, undef, undef, undef, undef, undef, undef, undef, undef, undef, undef, undef, undef, undef, undef, undef, undef, undef, undef, undef], []⟩) [(0, 0, 0), (0, 0, 0), (0, 0, 0), (0, 0, 0), (0, 0, 0), (0, 0, 0), (0, 0, 0), (0, 0, 0), (0, 0, 0), (0, 0, 0), (0, 0, 0), (0, 0, 0), (0, 0, 0), (0, 0, 0), (0, 0, 0), (0, 0, 0), (0, 0, 0), (0, 0, 0), (0, 0, 0), (0, 0, 0), (0, 0, 0), (0, 0, 0), (0, 0, 0), (0, 0, 0), (0, 0, 0), (0, 0, 0), (0, 0, 0), (0, 0, 0), (0, 0, 0), (0, 0, 0), (0, 0, 0), (0, 0, 0), (0, 0, 0), (0, 0, 0), (1, 35, 33), (3, 34, 33)] (fun i => ([[], [], [], [], [], [], [], [], [], [], [], [], [], [], [], [], [], [], [], [], [], [], [], [], [], [], [], [], [], [], [], [], [], [], [.int .i64 0, .int .i64 0, .int .i64 0], []] : List (List Value)).getD i []) [.val (.pointer (some ⟨b2, 0, none⟩)), .val (.int .u8 (g0 : Int)), .val (.int .i64 (g0 : Int)), .val (.pointer (some ⟨b5, 0, none⟩)), .val (.int .i64 (h1 : Int)), .val (.int .i64 t1), .val (.int .i64 u1), .val (.int .i64 o1), .val (.pointer (some ⟨b5, 0, none⟩)), .val (.int .i64 (h1 : Int)), .val (.int .i64 d1), .val (.pointer (some ⟨b2, 1, none⟩)), .val (.int .u8 (g1 : Int)), .val (.int .i64 (g1 : Int)), .val (.pointer (some ⟨b5, 1, none⟩)), .val (.int .i64 (h2 : Int)), .val (.int .i64 t2), .val (.int .i64 u2), .val (.int .i64 o2), .val (.pointer (some ⟨b5, 1, none⟩)), .val (.int .i64 (h2 : Int)), .val (.int .i64 d2), .val (.pointer (some ⟨b2, 2, none⟩)), .val (.int .u8 (g2 : Int)), .val (.int .i64 (g2 : Int)), .val (.pointer (some ⟨b5, 2, none⟩)), .val (.int .i64 (h3 : Int)), .val (.int .i64 t3), .val (.int .i64 u3), .val (.int .i64 o3), .val (.pointer (some ⟨b5, 2, none⟩)), .val (.int .i64 (h3 : Int)), .val (.int .i64 d3), .val (.agg #[.int .i64 d1, .int .i64 d2, .int .i64 d3]), .none, .none] [[], [0], [1], [], [3], [4], [5], [2, 6], [], [8], [7, 9], [], [11], [12], [], [14], [15], [16], [13, 17], [], [19], [18, 20], [], [22], [23], [], [25], [26], [27], [24, 28], [], [30], [29, 31], [10, 21, 32], [], [33, 34]] [0, 1, 2, 3, 4, 5, 6, 7, 8, 9, 10, 11, 12, 13, 14, 15, 16, 17, 18, 19, 20, 21, 22, 23, 24, 25, 26, 27, 28, 29, 30, 31, 32, 33] [34] [35] [] (fun i => ([0, 0, 0, 0, 0, 0, 0, 0, 0, 0, 0, 0, 0, 0, 0, 0, 0, 0, 0, 0, 0, 0, 0, 0, 0, 0, 0, 0, 0, 0, 0, 0, 0, 0, 23, 0] : List TypeId).getD i 0) W5 (by kernel_rfl) (by kernel_rfl) (by kernel_rfl) (by kernel_rfl) (by kernel_rfl) ?dist ?olds ?op ?al ?st ?into ?fin (fun _ => undef) _ _ (by kernel_rfl) (of_decide_eq_true (by kernel_rfl)) (of_decide_eq_true (by kernel_rfl))
    case hn => rfl
    case dist => intro i hi j hj; simp at hi hj; try omega
    case olds => exact nofun
    case op =>
      repeat' first | exact Each.nil | refine Each.cons ?_ ?_
      all_goals intro X w7 H hb hD h
      · refine tv rfl (by rfl) ?_ (by exact h _ w7 rfl (Below.refl _ _))
        go_simp <;> first | rfl | (simp only [IntWalk.i64_left]; rfl) | (simp only [IntWalk.i64_left, *]; done) | (simp only [IntWalk.i64_left, *]; rfl)
      · have e0_ : X 0 = _ := hD 0 (by decide) rfl
        have hv := v2.below (show Keep [] _ _ from hb).nil
        have c0_ := hv.at 0 rfl
        refine tv rfl (by simp only [e0_]; rfl) ?_ (by exact h _ w7 rfl (Below.refl _ _))
        simp only [e0_]; go_simp <;> first | rfl | (simp only [IntWalk.i64_left]; rfl) | (simp only [IntWalk.i64_left, *]; done) | (simp only [IntWalk.i64_left, *]; rfl)
      · have e1_ : X 1 = _ := hD 1 (by decide) rfl
        have f_ : wrap64 (g0 : Int) = (g0 : Int) := IntWalk.wrap64_in _ (by omega)
        refine tv rfl (by simp only [e1_]; rfl) ?_ (by exact h _ w7 rfl (Below.refl _ _))
        simp only [e1_]; go_simp <;> first | rfl | (simp only [IntWalk.i64_left]; rfl) | (simp only [IntWalk.i64_left, *]; done) | (simp only [IntWalk.i64_left, *]; rfl)
      · refine tv rfl (by rfl) ?_ (by exact h _ w7 rfl (Below.refl _ _))
        go_simp <;> first | rfl | (simp only [IntWalk.i64_left]; rfl) | (simp only [IntWalk.i64_left, *]; done) | (simp only [IntWalk.i64_left, *]; rfl)
      · have e3_ : X 3 = _ := hD 3 (by decide) rfl
        have hv := v5.below (show Keep [] _ _ from hb).nil
        have c0_ := hv.at 0 rfl
        refine tv rfl (by simp only [e3_]; rfl) ?_ (by exact h _ w7 rfl (Below.refl _ _))
        simp only [e3_]; go_simp <;> first | rfl | (simp only [IntWalk.i64_left]; rfl) | (simp only [IntWalk.i64_left, *]; done) | (simp only [IntWalk.i64_left, *]; rfl)
      · have e4_ : X 4 = _ := hD 4 (by decide) rfl
        have f_ := ft1.out
        refine tv rfl (by simp only [e4_]; rfl) ?_ (by exact h _ w7 rfl (Below.refl _ _))
        simp only [e4_]; go_simp <;> first | rfl | (simp only [IntWalk.i64_left]; rfl) | (simp only [IntWalk.i64_left, *]; done) | (simp only [IntWalk.i64_left, *]; rfl)
      · have e5_ : X 5 = _ := hD 5 (by decide) rfl
        have f_ := fu1.out
        refine tv rfl (by simp only [e5_]; rfl) ?_ (by exact h _ w7 rfl (Below.refl _ _))
        simp only [e5_]; go_simp <;> first | rfl | (simp only [IntWalk.i64_left]; rfl) | (simp only [IntWalk.i64_left, *]; done) | (simp only [IntWalk.i64_left, *]; rfl)
      · have e2_ : X 2 = _ := hD 2 (by decide) rfl
        have e6_ : X 6 = _ := hD 6 (by decide) rfl
        have f_ := fo1.out
        have z_ : ¬ u1 = 0 := by have := fz1.out; omega
        have z2_ : (u1 == 0) = false := by simpa using z_
        refine tv rfl (by simp only [e2_, e6_]; rfl) ?_ (by exact h _ w7 rfl (Below.refl _ _))
        simp only [e2_, e6_]; go_simp
        first | rfl | exact congrArg (Value.int .i64) f_
      · refine tv rfl (by rfl) ?_ (by exact h _ w7 rfl (Below.refl _ _))
        go_simp <;> first | rfl | (simp only [IntWalk.i64_left]; rfl) | (simp only [IntWalk.i64_left, *]; done) | (simp only [IntWalk.i64_left, *]; rfl)
      · have e8_ : X 8 = _ := hD 8 (by decide) rfl
        have hv := v5.below (show Keep [] _ _ from hb).nil
        have c0_ := hv.at 0 rfl
        refine tv rfl (by simp only [e8_]; rfl) ?_ (by exact h _ w7 rfl (Below.refl _ _))
        simp only [e8_]; go_simp <;> first | rfl | (simp only [IntWalk.i64_left]; rfl) | (simp only [IntWalk.i64_left, *]; done) | (simp only [IntWalk.i64_left, *]; rfl)
      · have e7_ : X 7 = _ := hD 7 (by decide) rfl
        have e9_ : X 9 = _ := hD 9 (by decide) rfl
        have f_ := fd1.out
        refine tv rfl (by simp only [e7_, e9_]; rfl) ?_ (by exact h _ w7 rfl (Below.refl _ _))
        simp only [e7_, e9_]; go_simp <;> first | rfl | (simp only [IntWalk.i64_left]; rfl) | (simp only [IntWalk.i64_left, *]; done) | (simp only [IntWalk.i64_left, *]; rfl)
      · refine tv rfl (by rfl) ?_ (by exact h _ w7 rfl (Below.refl _ _))
        go_simp <;> first | rfl | (simp only [IntWalk.i64_left]; rfl) | (simp only [IntWalk.i64_left, *]; done) | (simp only [IntWalk.i64_left, *]; rfl)
      · have e11_ : X 11 = _ := hD 11 (by decide) rfl
        have hv := v2.below (show Keep [] _ _ from hb).nil
        have c0_ := hv.at 1 rfl
        refine tv rfl (by simp only [e11_]; rfl) ?_ (by exact h _ w7 rfl (Below.refl _ _))
        simp only [e11_]; go_simp <;> first | rfl | (simp only [IntWalk.i64_left]; rfl) | (simp only [IntWalk.i64_left, *]; done) | (simp only [IntWalk.i64_left, *]; rfl)
      · have e12_ : X 12 = _ := hD 12 (by decide) rfl
        have f_ : wrap64 (g1 : Int) = (g1 : Int) := IntWalk.wrap64_in _ (by omega)
        refine tv rfl (by simp only [e12_]; rfl) ?_ (by exact h _ w7 rfl (Below.refl _ _))
        simp only [e12_]; go_simp <;> first | rfl | (simp only [IntWalk.i64_left]; rfl) | (simp only [IntWalk.i64_left, *]; done) | (simp only [IntWalk.i64_left, *]; rfl)
      · refine tv rfl (by rfl) ?_ (by exact h _ w7 rfl (Below.refl _ _))
        go_simp <;> first | rfl | (simp only [IntWalk.i64_left]; rfl) | (simp only [IntWalk.i64_left, *]; done) | (simp only [IntWalk.i64_left, *]; rfl)
      · have e14_ : X 14 = _ := hD 14 (by decide) rfl
        have hv := v5.below (show Keep [] _ _ from hb).nil
        have c0_ := hv.at 1 rfl
        refine tv rfl (by simp only [e14_]; rfl) ?_ (by exact h _ w7 rfl (Below.refl _ _))
        simp only [e14_]; go_simp <;> first | rfl | (simp only [IntWalk.i64_left]; rfl) | (simp only [IntWalk.i64_left, *]; done) | (simp only [IntWalk.i64_left, *]; rfl)
      · have e15_ : X 15 = _ := hD 15 (by decide) rfl
        have f_ := ft2.out
        refine tv rfl (by simp only [e15_]; rfl) ?_ (by exact h _ w7 rfl (Below.refl _ _))
        simp only [e15_]; go_simp <;> first | rfl | (simp only [IntWalk.i64_left]; rfl) | (simp only [IntWalk.i64_left, *]; done) | (simp only [IntWalk.i64_left, *]; rfl)
      · have e16_ : X 16 = _ := hD 16 (by decide) rfl
        have f_ := fu2.out
        refine tv rfl (by simp only [e16_]; rfl) ?_ (by exact h _ w7 rfl (Below.refl _ _))
        simp only [e16_]; go_simp <;> first | rfl | (simp only [IntWalk.i64_left]; rfl) | (simp only [IntWalk.i64_left, *]; done) | (simp only [IntWalk.i64_left, *]; rfl)
      · have e13_ : X 13 = _ := hD 13 (by decide) rfl
        have e17_ : X 17 = _ := hD 17 (by decide) rfl
        have f_ := fo2.out
        have z_ : ¬ u2 = 0 := by have := fz2.out; omega
        have z2_ : (u2 == 0) = false := by simpa using z_
        refine tv rfl (by simp only [e13_, e17_]; rfl) ?_ (by exact h _ w7 rfl (Below.refl _ _))
        simp only [e13_, e17_]; go_simp
        first | rfl | exact congrArg (Value.int .i64) f_
      · refine tv rfl (by rfl) ?_ (by exact h _ w7 rfl (Below.refl _ _))
        go_simp <;> first | rfl | (simp only [IntWalk.i64_left]; rfl) | (simp only [IntWalk.i64_left, *]; done) | (simp only [IntWalk.i64_left, *]; rfl)
      · have e19_ : X 19 = _ := hD 19 (by decide) rfl
        have hv := v5.below (show Keep [] _ _ from hb).nil
        have c0_ := hv.at 1 rfl
        refine tv rfl (by simp only [e19_]; rfl) ?_ (by exact h _ w7 rfl (Below.refl _ _))
        simp only [e19_]; go_simp <;> first | rfl | (simp only [IntWalk.i64_left]; rfl) | (simp only [IntWalk.i64_left, *]; done) | (simp only [IntWalk.i64_left, *]; rfl)
      · have e18_ : X 18 = _ := hD 18 (by decide) rfl
        have e20_ : X 20 = _ := hD 20 (by decide) rfl
        have f_ := fd2.out
        refine tv rfl (by simp only [e18_, e20_]; rfl) ?_ (by exact h _ w7 rfl (Below.refl _ _))
        simp only [e18_, e20_]; go_simp <;> first | rfl | (simp only [IntWalk.i64_left]; rfl) | (simp only [IntWalk.i64_left, *]; done) | (simp only [IntWalk.i64_left, *]; rfl)
      · refine tv rfl (by rfl) ?_ (by exact h _ w7 rfl (Below.refl _ _))
        go_simp <;> first | rfl | (simp only [IntWalk.i64_left]; rfl) | (simp only [IntWalk.i64_left, *]; done) | (simp only [IntWalk.i64_left, *]; rfl)
      · have e22_ : X 22 = _ := hD 22 (by decide) rfl
        have hv := v2.below (show Keep [] _ _ from hb).nil
        have c0_ := hv.at 2 rfl
        refine tv rfl (by simp only [e22_]; rfl) ?_ (by exact h _ w7 rfl (Below.refl _ _))
        simp only [e22_]; go_simp <;> first | rfl | (simp only [IntWalk.i64_left]; rfl) | (simp only [IntWalk.i64_left, *]; done) | (simp only [IntWalk.i64_left, *]; rfl)
      · have e23_ : X 23 = _ := hD 23 (by decide) rfl
        have f_ : wrap64 (g2 : Int) = (g2 : Int) := IntWalk.wrap64_in _ (by omega)
        refine tv rfl (by simp only [e23_]; rfl) ?_ (by exact h _ w7 rfl (Below.refl _ _))
        simp only [e23_]; go_simp <;> first | rfl | (simp only [IntWalk.i64_left]; rfl) | (simp only [IntWalk.i64_left, *]; done) | (simp only [IntWalk.i64_left, *]; rfl)
      · refine tv rfl (by rfl) ?_ (by exact h _ w7 rfl (Below.refl _ _))
        go_simp <;> first | rfl | (simp only [IntWalk.i64_left]; rfl) | (simp only [IntWalk.i64_left, *]; done) | (simp only [IntWalk.i64_left, *]; rfl)
      · have e25_ : X 25 = _ := hD 25 (by decide) rfl
        have hv := v5.below (show Keep [] _ _ from hb).nil
        have c0_ := hv.at 2 rfl
        refine tv rfl (by simp only [e25_]; rfl) ?_ (by exact h _ w7 rfl (Below.refl _ _))
        simp only [e25_]; go_simp <;> first | rfl | (simp only [IntWalk.i64_left]; rfl) | (simp only [IntWalk.i64_left, *]; done) | (simp only [IntWalk.i64_left, *]; rfl)
      · have e26_ : X 26 = _ := hD 26 (by decide) rfl
        have f_ := ft3.out
        refine tv rfl (by simp only [e26_]; rfl) ?_ (by exact h _ w7 rfl (Below.refl _ _))
        simp only [e26_]; go_simp <;> first | rfl | (simp only [IntWalk.i64_left]; rfl) | (simp only [IntWalk.i64_left, *]; done) | (simp only [IntWalk.i64_left, *]; rfl)
      · have e27_ : X 27 = _ := hD 27 (by decide) rfl
        have f_ := fu3.out
        refine tv rfl (by simp only [e27_]; rfl) ?_ (by exact h _ w7 rfl (Below.refl _ _))
        simp only [e27_]; go_simp <;> first | rfl | (simp only [IntWalk.i64_left]; rfl) | (simp only [IntWalk.i64_left, *]; done) | (simp only [IntWalk.i64_left, *]; rfl)
      · have e24_ : X 24 = _ := hD 24 (by decide) rfl
        have e28_ : X 28 = _ := hD 28 (by decide) rfl
        have f_ := fo3.out
        have z_ : ¬ u3 = 0 := by have := fz3.out; omega
        have z2_ : (u3 == 0) = false := by simpa using z_
        refine tv rfl (by simp only [e24_, e28_]; rfl) ?_ (by exact h _ w7 rfl (Below.refl _ _))
        simp only [e24_, e28_]; go_simp
        first | rfl | exact congrArg (Value.int .i64) f_
      · refine tv rfl (by rfl) ?_ (by exact h _ w7 rfl (Below.refl _ _))
        go_simp <;> first | rfl | (simp only [IntWalk.i64_left]; rfl) | (simp only [IntWalk.i64_left, *]; done) | (simp only [IntWalk.i64_left, *]; rfl)
      · have e30_ : X 30 = _ := hD 30 (by decide) rfl
        have hv := v5.below (show Keep [] _ _ from hb).nil
        have c0_ := hv.at 2 rfl
        refine tv rfl (by simp only [e30_]; rfl) ?_ (by exact h _ w7 rfl (Below.refl _ _))
        simp only [e30_]; go_simp <;> first | rfl | (simp only [IntWalk.i64_left]; rfl) | (simp only [IntWalk.i64_left, *]; done) | (simp only [IntWalk.i64_left, *]; rfl)
      · have e29_ : X 29 = _ := hD 29 (by decide) rfl
        have e31_ : X 31 = _ := hD 31 (by decide) rfl
        have f_ := fd3.out
        refine tv rfl (by simp only [e29_, e31_]; rfl) ?_ (by exact h _ w7 rfl (Below.refl _ _))
        simp only [e29_, e31_]; go_simp <;> first | rfl | (simp only [IntWalk.i64_left]; rfl) | (simp only [IntWalk.i64_left, *]; done) | (simp only [IntWalk.i64_left, *]; rfl)
      · have e10_ : X 10 = _ := hD 10 (by decide) rfl
        have e21_ : X 21 = _ := hD 21 (by decide) rfl
        have e32_ : X 32 = _ := hD 32 (by decide) rfl
        have hl2 := hl2.below (show Keep [] _ _ from hb).nil
        refine wpOp_call (i := 33) (f := 12) (args := #[.int .i64 d1, .int .i64 d2, .int .i64 d3]) 87 rfl rfl (by simp only [e10_, e21_, e32_]; rfl) (by simp only [e10_, e21_, e32_]; go_simp) ?_
        refine (vec_l d1 d2 d3 _).mono ?_
        rintro e w8 ⟨rfl, hk⟩
        exact ⟨_, rfl, h _ w8 rfl hk⟩
    case al =>
      repeat' first | exact Each.nil | refine Each.cons ?_ ?_
      all_goals exact fun X w7 H h => wpOp_run rfl (by go_simp; exact h)
    case st =>
      repeat' first | exact Each.nil | refine Each.cons ?_ ?_
      all_goals intro X w7 H b hX hC hG h
      · replace hX : X 34 = .pointer (some ⟨b, 0, none⟩) := hX
        have e : X 33 = _ := hG
        have c0_ := hC.at 0 rfl
        have z0_ := hC.fr 0 (by decide)
        have c1_ := hC.at 1 rfl
        have z1_ := hC.fr 1 (by decide)
        have c2_ := hC.at 2 rfl
        have z2_ := hC.fr 2 (by decide)
        refine wpOp_run rfl ?_
        have h := h (by show _ = (vc (X 33)).length; rw [e]; rfl)
        simp only [hX] at h ⊢
        replace h : H _ (putC b w7 0 (vc (X 33))) := h
        simp only [e] at h ⊢
        go_simp
        exact h
    case into => exact Each.nil
    case fin =>
      intro X4_ W6 hI
      have hE : Keep [] W5 W6 := hI.keep
      have e33_ : X4_ 33 = _ := hI.fact 33 (by decide) rfl rfl
      obtain ⟨b6, e34_, lob6, v6⟩ := hI.box 34 (by decide) rfl (by decide)
      replace v6 : Var W6 b6 (vc (X4_ 33)) := v6
      rw [e33_] at v6
      replace v6 : Var W6 b6 [.int .i64 d1, .int .i64 d2, .int .i64 d3] := v6
      replace lob6 : w.heap.size ≤ b6 := Nat.le_trans hB.size lob6
      have v0 := v0.below hE.nil
      have v1 := v1.below hE.nil
      have v2 := v2.below hE.nil
      have v3 := v3.below hE.nil
      have v4 := v4.below hE.nil
      have v5 := v5.below hE.nil
      have hB := hB.trans (hE.nil.mono hB.size)
      have hl2 := hl2.below hE.nil
      simp only [e33_, e34_]
      clear e33_ e34_ hI hE
      obtain ⟨s1, hs1⟩ : ∃ s, sdI p1 = s := ⟨_, rfl⟩
      obtain ⟨s2, hs2⟩ : ∃ s, sdI p2 = s := ⟨_, rfl⟩
      obtain ⟨s3, hs3⟩ : ∃ s, sdI p3 = s := ⟨_, rfl⟩
      obtain ⟨r, hr⟩ : ∃ r, rchI p1 p2 p3 h1 h2 h3 = r := ⟨_, rfl⟩
      obtain ⟨k1, hk1⟩ : ∃ k, s1 * (h1 : Int) = k := ⟨_, rfl⟩
      obtain ⟨k2, hk2⟩ : ∃ k, s2 * (h2 : Int) = k := ⟨_, rfl⟩
      obtain ⟨k3, hk3⟩ : ∃ k, s3 * (h3 : Int) = k := ⟨_, rfl⟩
      obtain ⟨pb, hpb⟩ : ∃ pb, p4 + r = pb := ⟨_, rfl⟩
      have ⟨ip1, ip2, ip3, ip4⟩ := jp.out.i64
      have ⟨iq1, iq2, iq3, iq4⟩ := jq.out.i64
      have ⟨cr1, cr2, cr3⟩ := jp.out.rch hb1 hb2 hb3
      rw [hr] at cr1 cr2 cr3
      have hpb4 := jp.out.2.2.2.2
      have cR : Hid (∀ w, Calls Try.prog 23 #[V p1 p2 p3, V h1 h2 h3] w (Gives w (.int .i64 r))) := hideV fun w => Gives.to (by rw [cr1]) (reach_p p1 p2 p3 h1 h2 h3 w)
      have cP : Hid (∀ w, Calls Try.prog 35 #[Pl p1 p2 p3 p4, .int .i64 r] w (Gives w (.tuple #[Pl p1 p2 p3 pb, .bool true]))) := hideV fun w => Gives.to (push_ok (jp.out.valid (by omega)) (jp.out.valid (c := pb) (by omega)) (by rw [hpb]; exact IntWalk.wrap64_in _ (by omega))) (push_p p1 p2 p3 p4 r ip1 ip2 ip3 w)
      have cQ : Hid (∀ w, Calls Try.prog 35 #[Pl p1 p2 p3 pb, .int .i64 (-r)] w (Gives w (.tuple #[Pl p1 p2 p3 p4, .bool true]))) := hideV fun w => Gives.to (push_ok (jp.out.valid (c := pb) (by omega)) (jp.out.valid (by omega)) (by rw [show pb + -r = p4 by omega]; exact IntWalk.wrap64_in _ (by omega))) (push_p p1 p2 p3 pb (-r) ip1 ip2 ip3 w)
      have hc_ := (jp.out.corner hb1 hb2 hb3).2
      rw [hs1, hs2, hs3, hk1, hk2, hk3, hr] at hc_
      have cD : Hid (∀ w, Calls Try.prog 19 #[V p1 p2 p3, V k1 k2 k3] w (Gives w (.int .i64 r))) := hideV fun w => Gives.to (by rw [hc_]) (dot_p p1 p2 p3 k1 k2 k3 w)
      clear hc_
      have fk1 := (corner_one p1 hb1).1
      have fk2 := (corner_one p2 hb2).1
      have fk3 := (corner_one p3 hb3).1
      rw [hs1, hk1] at fk1
      rw [hs2, hk2] at fk2
      rw [hs3, hk3] at fk3
      have fk1 := hideV fk1
      have fk2 := hideV fk2
      have fk3 := hideV fk3
      have hs1 := hideV hs1
      have hs2 := hideV hs2
      have hs3 := hideV hs3
      have hk1 := hideV hk1
      have hk2 := hideV hk2
      have hk3 := hideV hk3
      have hr := hideV hr
      have hpb := hideV hpb
      have hpb4 := hideV hpb4
      have ip1 := hideV ip1
      have ip2 := hideV ip2
      have ip3 := hideV ip3
      have cr3 := hideV cr3
      clear cr1 ip4 iq4
      have cb3_0 := v3.at 0 rfl
      have cb3_1 := v3.at 1 rfl
      have cb3_2 := v3.at 2 rfl
      have cb3_3 := v3.at 3 rfl
      have cb5_0 := v5.at 0 rfl
      have cb5_1 := v5.at 1 rfl
      have cb5_2 := v5.at 2 rfl
      go_wp2_with fail
      refine (cR.out _).mono ?_
      rintro e W7 ⟨rfl, hk⟩
      have hs := hk
      have v0 := v0.below hs
      have v1 := v1.below hs
      have v2 := v2.below hs
      have v3 := v3.below hs
      have v4 := v4.below hs
      have v5 := v5.below hs
      have v6 := v6.below hs
      have hl2 := hl2.below hs
      have hB := hB.trans (hs.mono hB.size)
      clear cb3_0 cb3_1 cb3_2 cb3_3 cb5_0 cb5_1 cb5_2 hs hk
      have cb3_0 := v3.at 0 rfl
      have cb3_1 := v3.at 1 rfl
      have cb3_2 := v3.at 2 rfl
      have cb3_3 := v3.at 3 rfl
      go_wp2_with fail
      refine (cP.out _).mono ?_
      rintro e W8 ⟨rfl, hk⟩
      try simp only [Pl]
      have hs := hk
      have v0 := v0.below hs
      have v1 := v1.below hs
      have v2 := v2.below hs
      have v3 := v3.below hs
      have v4 := v4.below hs
      have v5 := v5.below hs
      have v6 := v6.below hs
      have hl2 := hl2.below hs
      have hB := hB.trans (hs.mono hB.size)
      clear cb3_0 cb3_1 cb3_2 cb3_3 hs hk
      skip
      go_wp2_with fail
      refine wp_region_dag (by kernel_rfl) ?_
      intro W9 hk
      have hs : Below W8.heap.size W8 W9 := Below.trans (by repeat (first | exact Below.refl _ _ | refine Below.alloc ?_ (by first | omega | (simp; try omega)) _ | refine Below.setCell ?_ (by first | omega | (simp; try omega)) _)) (hk.mono (by first | omega | (simp; try omega)))
      have v0 := v0.below hs
      have v1 := v1.below hs
      have v2 := v2.below hs
      have v3 := v3.below hs
      have v4 := v4.below hs
      have v5 := v5.below hs
      have v6 := v6.below hs
      have hl2 := hl2.below hs
      have v7 : Var W9 (W8.heap.size) [.int .i64 p1, .int .i64 p2, .int .i64 p3, .int .i64 pb] := Var.low ⟨by first | omega | (simp; try omega), by simp [Cel, go_sem]⟩ hk (by first | omega | (simp; try omega))
      obtain ⟨b7, hb7⟩ : ∃ b, W8.heap.size = b := ⟨_, rfl⟩
      have lob7 : w.heap.size ≤ b7 := by have := hB.size; omega
      rw [hb7] at v7
      try rw [hb7]
      have hB := hB.trans (hs.mono hB.size)
      clear hb7 hs hk
      refine dagV (fun _ => trivial) 24 ?hn (fun X => ⟨#[.agg #[.slice a0 len0 cap0, .slice a1 len1 cap1], .slice (some ad) len cap, .agg #[.int .u8 (e0 : Int), .int .u8 (e1 : Int), .int .u8 (e2 : Int)], .agg #[.int .u8 (g0 : Int), .int .u8 (g1 : Int), .int .u8 (g2 : Int)], .pointer (some ⟨b0, 0, none⟩), undef, .pointer (some ⟨b1, 0, none⟩), .pointer (some ⟨b2, 0, none⟩), .bool false, .bool true, .pointer (some ⟨b3, 0, none⟩), .pointer (some ⟨b4, 0, none⟩), .pointer (some ⟨b5, 0, none⟩), .pointer (some ⟨b6, 0, none⟩), .int .i64 r, .pointer (some ⟨b7, 0, none⟩), .bool true, X 22, undef, undef, undef, undef, undef, undef, .bool true, X2_ 0, X2_ 1, X2_ 2, X2_ 3, X2_ 4, X2_ 5, X2_ 6, .agg #[.int .i64 p1, .int .i64 p2, .int .i64 p3, .int .i64 p4], X2_ 8, X2_ 9, X2_ 10, X2_ 11, X2_ 12, X2_ 13, X2_ 14, .agg #[.int .i64 q1, .int .i64 q2, .int .i64 q3, .int .i64 q4], .pointer (some ⟨b1, 0, none⟩), .int .u8 (e0 : Int), .int .i64 (e0 : Int), .int .i64 ((e0 : Int) % 13), .pointer (some ⟨b1, 1, none⟩), .int .u8 (e1 : Int), .int .i64 (e1 : Int), .int .i64 ((e1 : Int) % 13), .pointer (some ⟨b1, 2, none⟩), .int .u8 (e2 : Int), .int .i64 (e2 : Int), .int .i64 ((e2 : Int) % 13), .agg #[.int .i64 (h1 : Int), .int .i64 (h2 : Int), .int .i64 (h3 : Int)], X4_ 0, X4_ 1, X4_ 2, X4_ 3, X4_ 4, X4_ 5, X4_ 6, X4_ 7, X4_ 8, X4_ 9, X4_ 10, X4_ 11, X4_ 12, X4_ 13, X4_ 14, X4_ 15, X4_ 16, X4_ 17, X4_ 18, X4_ 19, X4_ 20, X4_ 21, X4_ 22, X4_ 23, X4_ 24, X4_ 25, X4_ 26, X4_ 27, X4_ 28, X4_ 29, X4_ 30, X4_ 31, X4_ 32, .agg #[.int .i64 d1, .int .i64 d2, .int .i64 d3], .pointer (some ⟨b3, 0, none⟩), .agg #[.int .i64 p1, .int .i64 p2, .int .i64 p3], .agg #[.int .i64 (h1 : Int), .int .i64 (h2 : Int), .int .i64 (h3 : Int)], .int .i64 r, .tuple #[.agg #[.int .i64 p1, .int .i64 p2, .int .i64 p3, .int .i64 pb], .bool true], .agg #[.int .i64 p1, .int .i64 p2, .int .i64 p3, .int .i64 p4], .int .i64 r, .tuple #[.agg #[.int .i64 p1, .int .i64 p2, .int .i64 p3, .int .i64 pb], .bool true], .agg #[.int .i64 p1, .int .i64 p2, .int .i64 p3, .int .i64 pb], .bool true, .bool true, .bool false, .bool false, .int .i64 r, .bool (decide (r < 0)), .bool (decide (r < 0)), X 0, X 1, X 2, X 3, X 4, X 5, X 6, X 7, X 8, X 9, X 10, X 11, X 12, X 13, X 14, X 15, X 16, X 17, X 18, X 19, X 20, X 21, undef, undef, undef, undef, undef, undef, undef, undef, undef, undef, undef, undef, undef, undef, undef, undef, undef, undef, undef, undef, undef, undef, undef, undef, undef, undef, undef, undef, undef, undef, undef, undef, undef, undef, undef, undef, undef, undef, undef, undef, undef, undef, undef, undef, undef, undef, undef, undef, undef, undef, undef, undef, undef, undef, undef, undef, undef, undef, undef, undef, undef, undef, undef, undef, undef, undef, undef, undef, undef, undef, undef, undef, undef, undef, undef, undef, undef, undef, undef, undef, undef, undef, undef, undef, undef, undef, undef, undef, undef, undef, undef, undef, undef, undef, undef, undef, undef, undef, undef, undef, undef, undef, undef, undef, undef, undef, undef, undef], []⟩) [(0, 0, 0), (0, 0, 0), (0, 0, 0), (0, 0, 0), (0, 0, 0), (0, 0, 0), (0, 0, 0), (0, 0, 0), (0, 0, 0), (0, 0, 0), (0, 0, 0), (0, 0, 0), (0, 0, 0), (0, 0, 0), (0, 0, 0), (0, 0, 0), (0, 0, 0), (0, 0, 0), (0, 0, 0), (0, 0, 0), (0, 0, 0), (0, 0, 0), (1, 23, 21), (3, 22, 21)] (fun i => ([[], [], [], [], [], [], [], [], [], [], [], [], [], [], [], [], [], [], [], [], [], [], [.int .i64 0, .int .i64 0, .int .i64 0], []] : List (List Value)).getD i []) [.val (.pointer (some ⟨b3, 0, none⟩)), .val (.pointer (some ⟨b3, 0, none⟩)), .val (.int .i64 p1), .val (.int .i64 s1), .val (.pointer (some ⟨b5, 0, none⟩)), .val (.int .i64 (h1 : Int)), .val (.int .i64 k1), .val (.pointer (some ⟨b3, 0, none⟩)), .val (.pointer (some ⟨b3, 1, none⟩)), .val (.int .i64 p2), .val (.int .i64 s2), .val (.pointer (some ⟨b5, 1, none⟩)), .val (.int .i64 (h2 : Int)), .val (.int .i64 k2), .val (.pointer (some ⟨b3, 0, none⟩)), .val (.pointer (some ⟨b3, 2, none⟩)), .val (.int .i64 p3), .val (.int .i64 s3), .val (.pointer (some ⟨b5, 2, none⟩)), .val (.int .i64 (h3 : Int)), .val (.int .i64 k3), .val (.agg #[.int .i64 k1, .int .i64 k2, .int .i64 k3]), .none, .none] [[], [0], [1], [2], [], [4], [3, 5], [], [7], [8], [9], [], [11], [10, 12], [], [14], [15], [16], [], [18], [17, 19], [6, 13, 20], [], [21, 22]] [0, 1, 2, 3, 4, 5, 6, 7, 8, 9, 10, 11, 12, 13, 14, 15, 16, 17, 18, 19, 20, 21] [22] [23] [] (fun i => ([0, 0, 0, 0, 0, 0, 0, 0, 0, 0, 0, 0, 0, 0, 0, 0, 0, 0, 0, 0, 0, 0, 23, 0] : List TypeId).getD i 0) W9 (by kernel_rfl) (by kernel_rfl) (by kernel_rfl) (by kernel_rfl) (by kernel_rfl) ?dist ?olds ?op ?al ?st ?into ?fin (fun _ => undef) _ _ (by kernel_rfl) (of_decide_eq_true (by kernel_rfl)) (of_decide_eq_true (by kernel_rfl))
      case hn => rfl
      case dist => intro i hi j hj; simp at hi hj; try omega
      case olds => exact nofun
      case op =>
        repeat' first | exact Each.nil | refine Each.cons ?_ ?_
        all_goals intro X w7 H hb hD h
        · refine tv rfl (by rfl) ?_ (by exact h _ w7 rfl (Below.refl _ _))
          go_simp <;> first | rfl | (simp only [IntWalk.i64_left]; rfl) | (simp only [IntWalk.i64_left, *]; done) | (simp only [IntWalk.i64_left, *]; rfl)
        · have e0_ : X 0 = _ := hD 0 (by decide) rfl
          refine tv rfl (by simp only [e0_]; rfl) ?_ (by exact h _ w7 rfl (Below.refl _ _))
          simp only [e0_]; go_simp <;> first | rfl | (simp only [IntWalk.i64_left]; rfl) | (simp only [IntWalk.i64_left, *]; done) | (simp only [IntWalk.i64_left, *]; rfl)
        · have e1_ : X 1 = _ := hD 1 (by decide) rfl
          have hv := v3.below (show Keep [] _ _ from hb).nil
          have c0_ := hv.at 0 rfl
          refine tv rfl (by simp only [e1_]; rfl) ?_ (by exact h _ w7 rfl (Below.refl _ _))
          simp only [e1_]; go_simp <;> first | rfl | (simp only [IntWalk.i64_left]; rfl) | (simp only [IntWalk.i64_left, *]; done) | (simp only [IntWalk.i64_left, *]; rfl)
        · have e2_ : X 2 = _ := hD 2 (by decide) rfl
          have hl2 := hl2.below (show Keep [] _ _ from hb).nil
          refine wpOp_call (i := 3) (f := 42) (args := #[.int .i64 p1]) 107 rfl rfl (by simp only [e2_]; rfl) (by simp only [e2_]; go_simp) ?_
          refine (sgn_l p1 _).mono ?_
          rintro e w8 ⟨rfl, hk⟩
          rw [hs1.out]
          exact ⟨_, rfl, h _ w8 rfl hk⟩
        · refine tv rfl (by rfl) ?_ (by exact h _ w7 rfl (Below.refl _ _))
          go_simp <;> first | rfl | (simp only [IntWalk.i64_left]; rfl) | (simp only [IntWalk.i64_left, *]; done) | (simp only [IntWalk.i64_left, *]; rfl)
        · have e4_ : X 4 = _ := hD 4 (by decide) rfl
          have hv := v5.below (show Keep [] _ _ from hb).nil
          have c0_ := hv.at 0 rfl
          refine tv rfl (by simp only [e4_]; rfl) ?_ (by exact h _ w7 rfl (Below.refl _ _))
          simp only [e4_]; go_simp <;> first | rfl | (simp only [IntWalk.i64_left]; rfl) | (simp only [IntWalk.i64_left, *]; done) | (simp only [IntWalk.i64_left, *]; rfl)
        · have e3_ : X 3 = _ := hD 3 (by decide) rfl
          have e5_ : X 5 = _ := hD 5 (by decide) rfl
          have f_ := fk1.out
          refine tv rfl (by simp only [e3_, e5_]; rfl) ?_ (by exact h _ w7 rfl (Below.refl _ _))
          simp only [e3_, e5_]; go_simp <;> first | rfl | (simp only [IntWalk.i64_left]; rfl) | (simp only [IntWalk.i64_left, *]; done) | (simp only [IntWalk.i64_left, *]; rfl)
        · refine tv rfl (by rfl) ?_ (by exact h _ w7 rfl (Below.refl _ _))
          go_simp <;> first | rfl | (simp only [IntWalk.i64_left]; rfl) | (simp only [IntWalk.i64_left, *]; done) | (simp only [IntWalk.i64_left, *]; rfl)
        · have e7_ : X 7 = _ := hD 7 (by decide) rfl
          refine tv rfl (by simp only [e7_]; rfl) ?_ (by exact h _ w7 rfl (Below.refl _ _))
          simp only [e7_]; go_simp <;> first | rfl | (simp only [IntWalk.i64_left]; rfl) | (simp only [IntWalk.i64_left, *]; done) | (simp only [IntWalk.i64_left, *]; rfl)
        · have e8_ : X 8 = _ := hD 8 (by decide) rfl
          have hv := v3.below (show Keep [] _ _ from hb).nil
          have c0_ := hv.at 1 rfl
          refine tv rfl (by simp only [e8_]; rfl) ?_ (by exact h _ w7 rfl (Below.refl _ _))
          simp only [e8_]; go_simp <;> first | rfl | (simp only [IntWalk.i64_left]; rfl) | (simp only [IntWalk.i64_left, *]; done) | (simp only [IntWalk.i64_left, *]; rfl)
        · have e9_ : X 9 = _ := hD 9 (by decide) rfl
          have hl2 := hl2.below (show Keep [] _ _ from hb).nil
          refine wpOp_call (i := 10) (f := 42) (args := #[.int .i64 p2]) 114 rfl rfl (by simp only [e9_]; rfl) (by simp only [e9_]; go_simp) ?_
          refine (sgn_l p2 _).mono ?_
          rintro e w8 ⟨rfl, hk⟩
          rw [hs2.out]
          exact ⟨_, rfl, h _ w8 rfl hk⟩
        · refine tv rfl (by rfl) ?_ (by exact h _ w7 rfl (Below.refl _ _))
          go_simp <;> first | rfl | (simp only [IntWalk.i64_left]; rfl) | (simp only [IntWalk.i64_left, *]; done) | (simp only [IntWalk.i64_left, *]; rfl)
        · have e11_ : X 11 = _ := hD 11 (by decide) rfl
          have hv := v5.below (show Keep [] _ _ from hb).nil
          have c0_ := hv.at 1 rfl
          refine tv rfl (by simp only [e11_]; rfl) ?_ (by exact h _ w7 rfl (Below.refl _ _))
          simp only [e11_]; go_simp <;> first | rfl | (simp only [IntWalk.i64_left]; rfl) | (simp only [IntWalk.i64_left, *]; done) | (simp only [IntWalk.i64_left, *]; rfl)
        · have e10_ : X 10 = _ := hD 10 (by decide) rfl
          have e12_ : X 12 = _ := hD 12 (by decide) rfl
          have f_ := fk2.out
          refine tv rfl (by simp only [e10_, e12_]; rfl) ?_ (by exact h _ w7 rfl (Below.refl _ _))
          simp only [e10_, e12_]; go_simp <;> first | rfl | (simp only [IntWalk.i64_left]; rfl) | (simp only [IntWalk.i64_left, *]; done) | (simp only [IntWalk.i64_left, *]; rfl)
        · refine tv rfl (by rfl) ?_ (by exact h _ w7 rfl (Below.refl _ _))
          go_simp <;> first | rfl | (simp only [IntWalk.i64_left]; rfl) | (simp only [IntWalk.i64_left, *]; done) | (simp only [IntWalk.i64_left, *]; rfl)
        · have e14_ : X 14 = _ := hD 14 (by decide) rfl
          refine tv rfl (by simp only [e14_]; rfl) ?_ (by exact h _ w7 rfl (Below.refl _ _))
          simp only [e14_]; go_simp <;> first | rfl | (simp only [IntWalk.i64_left]; rfl) | (simp only [IntWalk.i64_left, *]; done) | (simp only [IntWalk.i64_left, *]; rfl)
        · have e15_ : X 15 = _ := hD 15 (by decide) rfl
          have hv := v3.below (show Keep [] _ _ from hb).nil
          have c0_ := hv.at 2 rfl
          refine tv rfl (by simp only [e15_]; rfl) ?_ (by exact h _ w7 rfl (Below.refl _ _))
          simp only [e15_]; go_simp <;> first | rfl | (simp only [IntWalk.i64_left]; rfl) | (simp only [IntWalk.i64_left, *]; done) | (simp only [IntWalk.i64_left, *]; rfl)
        · have e16_ : X 16 = _ := hD 16 (by decide) rfl
          have hl2 := hl2.below (show Keep [] _ _ from hb).nil
          refine wpOp_call (i := 17) (f := 42) (args := #[.int .i64 p3]) 121 rfl rfl (by simp only [e16_]; rfl) (by simp only [e16_]; go_simp) ?_
          refine (sgn_l p3 _).mono ?_
          rintro e w8 ⟨rfl, hk⟩
          rw [hs3.out]
          exact ⟨_, rfl, h _ w8 rfl hk⟩
        · refine tv rfl (by rfl) ?_ (by exact h _ w7 rfl (Below.refl _ _))
          go_simp <;> first | rfl | (simp only [IntWalk.i64_left]; rfl) | (simp only [IntWalk.i64_left, *]; done) | (simp only [IntWalk.i64_left, *]; rfl)
        · have e18_ : X 18 = _ := hD 18 (by decide) rfl
          have hv := v5.below (show Keep [] _ _ from hb).nil
          have c0_ := hv.at 2 rfl
          refine tv rfl (by simp only [e18_]; rfl) ?_ (by exact h _ w7 rfl (Below.refl _ _))
          simp only [e18_]; go_simp <;> first | rfl | (simp only [IntWalk.i64_left]; rfl) | (simp only [IntWalk.i64_left, *]; done) | (simp only [IntWalk.i64_left, *]; rfl)
        · have e17_ : X 17 = _ := hD 17 (by decide) rfl
          have e19_ : X 19 = _ := hD 19 (by decide) rfl
          have f_ := fk3.out
          refine tv rfl (by simp only [e17_, e19_]; rfl) ?_ (by exact h _ w7 rfl (Below.refl _ _))
          simp only [e17_, e19_]; go_simp <;> first | rfl | (simp only [IntWalk.i64_left]; rfl) | (simp only [IntWalk.i64_left, *]; done) | (simp only [IntWalk.i64_left, *]; rfl)
        · have e6_ : X 6 = _ := hD 6 (by decide) rfl
          have e13_ : X 13 = _ := hD 13 (by decide) rfl
          have e20_ : X 20 = _ := hD 20 (by decide) rfl
          have hl2 := hl2.below (show Keep [] _ _ from hb).nil
          refine wpOp_call (i := 21) (f := 12) (args := #[.int .i64 k1, .int .i64 k2, .int .i64 k3]) 125 rfl rfl (by simp only [e6_, e13_, e20_]; rfl) (by simp only [e6_, e13_, e20_]; go_simp) ?_
          refine (vec_l k1 k2 k3 _).mono ?_
          rintro e w8 ⟨rfl, hk⟩
          exact ⟨_, rfl, h _ w8 rfl hk⟩
      case al =>
        repeat' first | exact Each.nil | refine Each.cons ?_ ?_
        all_goals exact fun X w7 H h => wpOp_run rfl (by go_simp; exact h)
      case st =>
        repeat' first | exact Each.nil | refine Each.cons ?_ ?_
        all_goals intro X w7 H b hX hC hG h
        · replace hX : X 22 = .pointer (some ⟨b, 0, none⟩) := hX
          have e : X 21 = _ := hG
          have c0_ := hC.at 0 rfl
          have z0_ := hC.fr 0 (by decide)
          have c1_ := hC.at 1 rfl
          have z1_ := hC.fr 1 (by decide)
          have c2_ := hC.at 2 rfl
          have z2_ := hC.fr 2 (by decide)
          refine wpOp_run rfl ?_
          have h := h (by show _ = (vc (X 21)).length; rw [e]; rfl)
          simp only [hX] at h ⊢
          replace h : H _ (putC b w7 0 (vc (X 21))) := h
          simp only [e] at h ⊢
          go_simp
          exact h
      case into => exact Each.nil
      case fin =>
        intro X9_ W10 hI
        have hE : Keep [] W9 W10 := hI.keep
        have e21_ : X9_ 21 = _ := hI.fact 21 (by decide) rfl rfl
        obtain ⟨b8, e22_, lob8, v8⟩ := hI.box 22 (by decide) rfl (by decide)
        replace v8 : Var W10 b8 (vc (X9_ 21)) := v8
        rw [e21_] at v8
        replace v8 : Var W10 b8 [.int .i64 k1, .int .i64 k2, .int .i64 k3] := v8
        replace lob8 : w.heap.size ≤ b8 := Nat.le_trans hB.size lob8
        have v0 := v0.below hE.nil
        have v1 := v1.below hE.nil
        have v2 := v2.below hE.nil
        have v3 := v3.below hE.nil
        have v4 := v4.below hE.nil
        have v5 := v5.below hE.nil
        have v6 := v6.below hE.nil
        have v7 := v7.below hE.nil
        have hB := hB.trans (hE.nil.mono hB.size)
        have hl2 := hl2.below hE.nil
        simp only [e21_, e22_]
        clear e21_ e22_ hI hE
        have cb3_0 := v3.at 0 rfl
        have cb3_1 := v3.at 1 rfl
        have cb3_2 := v3.at 2 rfl
        have cb3_3 := v3.at 3 rfl
        have cb8_0 := v8.at 0 rfl
        have cb8_1 := v8.at 1 rfl
        have cb8_2 := v8.at 2 rfl
        go_wp2_with fail
        refine (cD.out _).mono ?_
        rintro e W11 ⟨rfl, hk⟩
        have hs := hk
        have v0 := v0.below hs
        have v1 := v1.below hs
        have v2 := v2.below hs
        have v3 := v3.below hs
        have v4 := v4.below hs
        have v5 := v5.below hs
        have v6 := v6.below hs
        have v7 := v7.below hs
        have v8 := v8.below hs
        have hl2 := hl2.below hs
        have hB := hB.trans (hs.mono hB.size)
        clear cb3_0 cb3_1 cb3_2 cb3_3 cb8_0 cb8_1 cb8_2 hs hk
        go_wp2_with fail
        refine (points_r (some ad) len cap 4 (by omega) (by decide) (by decide) _ (hl2.mono hB.size (by omega))).mono ?_
        rintro e W12 ⟨g, c, xs, rfl, hxl, hxb, hv, hg, hk⟩
        obtain ⟨x0, x1, x2, x3, x4, x5, x6, x7, x8, x9, x10, x11, rfl⟩ := list12 hxl
        replace hv : Var W12 g [.int .i64 x0, .int .i64 x1, .int .i64 x2, .int .i64 x3, .int .i64 x4, .int .i64 x5, .int .i64 x6, .int .i64 x7, .int .i64 x8, .int .i64 x9, .int .i64 x10, .int .i64 x11] := hv
        have hP0 := hideV (show P24 x0 x1 x2 from ⟨hxb _ (by simp), hxb _ (by simp), hxb _ (by simp)⟩)
        have hP1 := hideV (show P24 x3 x4 x5 from ⟨hxb _ (by simp), hxb _ (by simp), hxb _ (by simp)⟩)
        have hP2 := hideV (show P24 x6 x7 x8 from ⟨hxb _ (by simp), hxb _ (by simp), hxb _ (by simp)⟩)
        have hP3 := hideV (show P24 x9 x10 x11 from ⟨hxb _ (by simp), hxb _ (by simp), hxb _ (by simp)⟩)
        clear hxl hxb hg
        have hs := hk
        have v0 := v0.below hs
        have v1 := v1.below hs
        have v2 := v2.below hs
        have v3 := v3.below hs
        have v4 := v4.below hs
        have v5 := v5.below hs
        have v6 := v6.below hs
        have v7 := v7.below hs
        have v8 := v8.below hs
        have hl2 := hl2.below hs
        have hB := hB.trans (hs.mono hB.size)
        clear hs hk
        clear hl2
        clear v0
        clear v1
        clear v2
        clear v5
        go_wp2_with fail
        go_loopw [139] (fun i wr => ∃ k : Nat, k ≤ 4 ∧ i = .int .i64 (k : Int) ∧ Below w.heap.size w wr ∧ Var wr b3 [.int .i64 p1, .int .i64 p2, .int .i64 p3, .int .i64 p4] ∧ Var wr b4 [.int .i64 q1, .int .i64 q2, .int .i64 q3, .int .i64 q4] ∧ Var wr b6 [.int .i64 d1, .int .i64 d2, .int .i64 d3] ∧ Var wr b7 [.int .i64 p1, .int .i64 p2, .int .i64 p3, .int .i64 pb] ∧ Var wr b8 [.int .i64 k1, .int .i64 k2, .int .i64 k3] ∧ Var wr g [.int .i64 x0, .int .i64 x1, .int .i64 x2, .int .i64 x3, .int .i64 x4, .int .i64 x5, .int .i64 x6, .int .i64 x7, .int .i64 x8, .int .i64 x9, .int .i64 x10, .int .i64 x11]) (fun i _ => 4 - (intOf i).toNat)
        case atStart => exact ⟨0, by omega, rfl, hB, v3, v4, v6, v7, v8, hv⟩
        case round =>
          clear hB v3 v4 v6 v7 v8 hv
          obtain ⟨k, hk, rfl, hB, v3, v4, v6, v7, v8, hv⟩ := hrel
          by_cases hlt : k < 4
          · have hk4 : (k : Int) < 4 := by omega
            obtain ⟨y1, y2, y3, hy, qq0, qq1, qq2⟩ : ∃ y1 y2 y3 : Int, Hid (P24 y1 y2 y3) ∧ ([.int .i64 x0, .int .i64 x1, .int .i64 x2, .int .i64 x3, .int .i64 x4, .int .i64 x5, .int .i64 x6, .int .i64 x7, .int .i64 x8, .int .i64 x9, .int .i64 x10, .int .i64 x11] : List Value)[k * 3]? = some (.int .i64 y1) ∧ ([.int .i64 x0, .int .i64 x1, .int .i64 x2, .int .i64 x3, .int .i64 x4, .int .i64 x5, .int .i64 x6, .int .i64 x7, .int .i64 x8, .int .i64 x9, .int .i64 x10, .int .i64 x11] : List Value)[k * 3 + 1]? = some (.int .i64 y2) ∧ ([.int .i64 x0, .int .i64 x1, .int .i64 x2, .int .i64 x3, .int .i64 x4, .int .i64 x5, .int .i64 x6, .int .i64 x7, .int .i64 x8, .int .i64 x9, .int .i64 x10, .int .i64 x11] : List Value)[k * 3 + 2]? = some (.int .i64 y3) := by
              match k, hlt with
              | 0, _ => exact ⟨_, _, _, hP0, rfl, rfl, rfl⟩
              | 1, _ => exact ⟨_, _, _, hP1, rfl, rfl, rfl⟩
              | 2, _ => exact ⟨_, _, _, hP2, rfl, rfl, rfl⟩
              | 3, _ => exact ⟨_, _, _, hP3, rfl, rfl, rfl⟩
            have d0_ := hv.at (k * 3) qq0
            have d1_ := hv.at (k * 3 + 1) qq1
            have d2_ := hv.at (k * 3 + 2) qq2
            clear qq0 qq1 qq2
            obtain ⟨n1, n2, n3, m1, m2, m3, sv, sn, bn, bm, cN, cM, cS, cT, cU, cI, cJ, hnear⟩ := point_facts jp hb1 hb2 hb3 hr hpb hs1 hs2 hs3 hk1 hk2 hk3 fn1 fn2 fn3 hy
            obtain ⟨gle, hle⟩ : ∃ b, decide (sv ≤ 0) = b := ⟨_, rfl⟩
            skip
            go_wp2_with fail
            refine wp_region_dag (by kernel_rfl) ?_
            intro W13 hk
            have hs : Below wr.heap.size wr W13 := Below.trans (by repeat (first | exact Below.refl _ _ | refine Below.alloc ?_ (by first | omega | (simp; try omega)) _ | refine Below.setCell ?_ (by first | omega | (simp; try omega)) _)) (hk.mono (by first | omega | (simp; try omega)))
            have v3 := v3.below hs
            have v4 := v4.below hs
            have v6 := v6.below hs
            have v7 := v7.below hs
            have v8 := v8.below hs
            have hv := hv.below hs
            have v9 : Var W13 (wr.heap.size) [.int .i64 y1, .int .i64 y2, .int .i64 y3] := Var.low ⟨by first | omega | (simp; try omega), by simp [Cel, go_sem]⟩ hk (by first | omega | (simp; try omega))
            obtain ⟨b9, hb9⟩ : ∃ b, wr.heap.size = b := ⟨_, rfl⟩
            have lob9 : w.heap.size ≤ b9 := by have := hB.size; omega
            rw [hb9] at v9
            try rw [hb9]
            have hB := hB.trans (hs.mono hB.size)
            clear hb9 hs hk
            refine dagV (fun _ => trivial) 10 ?hn (fun X => ⟨#[.agg #[.slice a0 len0 cap0, .slice a1 len1 cap1], .slice (some ad) len cap, .agg #[.int .u8 (e0 : Int), .int .u8 (e1 : Int), .int .u8 (e2 : Int)], .agg #[.int .u8 (g0 : Int), .int .u8 (g1 : Int), .int .u8 (g2 : Int)], .pointer (some ⟨b0, 0, none⟩), undef, .pointer (some ⟨b1, 0, none⟩), .pointer (some ⟨b2, 0, none⟩), u8, .bool true, .pointer (some ⟨b3, 0, none⟩), .pointer (some ⟨b4, 0, none⟩), .pointer (some ⟨b5, 0, none⟩), .pointer (some ⟨b6, 0, none⟩), .int .i64 r, .pointer (some ⟨b7, 0, none⟩), .bool true, .pointer (some ⟨b8, 0, none⟩), undef, .pointer (some ⟨b9, 0, none⟩), X 6, X 7, undef, undef, .bool true, X2_ 0, X2_ 1, X2_ 2, X2_ 3, X2_ 4, X2_ 5, X2_ 6, .agg #[.int .i64 p1, .int .i64 p2, .int .i64 p3, .int .i64 p4], X2_ 8, X2_ 9, X2_ 10, X2_ 11, X2_ 12, X2_ 13, X2_ 14, .agg #[.int .i64 q1, .int .i64 q2, .int .i64 q3, .int .i64 q4], .pointer (some ⟨b1, 0, none⟩), .int .u8 (e0 : Int), .int .i64 (e0 : Int), .int .i64 ((e0 : Int) % 13), .pointer (some ⟨b1, 1, none⟩), .int .u8 (e1 : Int), .int .i64 (e1 : Int), .int .i64 ((e1 : Int) % 13), .pointer (some ⟨b1, 2, none⟩), .int .u8 (e2 : Int), .int .i64 (e2 : Int), .int .i64 ((e2 : Int) % 13), .agg #[.int .i64 (h1 : Int), .int .i64 (h2 : Int), .int .i64 (h3 : Int)], X4_ 0, X4_ 1, X4_ 2, X4_ 3, X4_ 4, X4_ 5, X4_ 6, X4_ 7, X4_ 8, X4_ 9, X4_ 10, X4_ 11, X4_ 12, X4_ 13, X4_ 14, X4_ 15, X4_ 16, X4_ 17, X4_ 18, X4_ 19, X4_ 20, X4_ 21, X4_ 22, X4_ 23, X4_ 24, X4_ 25, X4_ 26, X4_ 27, X4_ 28, X4_ 29, X4_ 30, X4_ 31, X4_ 32, .agg #[.int .i64 d1, .int .i64 d2, .int .i64 d3], .pointer (some ⟨b3, 0, none⟩), .agg #[.int .i64 p1, .int .i64 p2, .int .i64 p3], .agg #[.int .i64 (h1 : Int), .int .i64 (h2 : Int), .int .i64 (h3 : Int)], .int .i64 r, .tuple #[.agg #[.int .i64 p1, .int .i64 p2, .int .i64 p3, .int .i64 pb], .bool true], .agg #[.int .i64 p1, .int .i64 p2, .int .i64 p3, .int .i64 p4], .int .i64 r, .tuple #[.agg #[.int .i64 p1, .int .i64 p2, .int .i64 p3, .int .i64 pb], .bool true], .agg #[.int .i64 p1, .int .i64 p2, .int .i64 p3, .int .i64 pb], .bool true, .bool true, .bool false, .bool false, .int .i64 r, .bool (decide (r < 0)), .bool (decide (r < 0)), X9_ 0, X9_ 1, X9_ 2, X9_ 3, X9_ 4, X9_ 5, X9_ 6, X9_ 7, X9_ 8, X9_ 9, X9_ 10, X9_ 11, X9_ 12, X9_ 13, X9_ 14, X9_ 15, X9_ 16, X9_ 17, X9_ 18, X9_ 19, X9_ 20, .agg #[.int .i64 k1, .int .i64 k2, .int .i64 k3], .pointer (some ⟨b3, 0, none⟩), .agg #[.int .i64 p1, .int .i64 p2, .int .i64 p3], .agg #[.int .i64 k1, .int .i64 k2, .int .i64 k3], .int .i64 r, .int .i64 r, .bool false, .slice (some ad) len cap, .slice (some ad) len cap, .int .i64 (len : Int), .int .i64 (len : Int), .slice (some ad) len cap, .slice (some ⟨g, 0, none⟩) 4 c, .int .i64 4, .int .i64 (k : Int), .bool true, .pointer (some ⟨g, k * 3, none⟩), .agg #[.int .i64 y1, .int .i64 y2, .int .i64 y3], X 0, X 1, X 2, X 3, X 4, X 5, u149, u150, u151, u152, u153, u154, u155, u156, u157, u158, u159, u160, u161, u162, u163, u164, u165, u166, u167, u168, u169, u170, u171, u172, u173, u174, u175, u176, undef, undef, undef, undef, undef, undef, undef, undef, undef, undef, undef, undef, undef, undef, undef, undef, undef, undef, undef, undef, undef, undef, undef, undef, undef, undef, undef, undef, undef, undef, undef, undef, undef, undef, undef, undef, undef, undef, undef, undef, undef, undef, undef, undef, undef, undef, undef, undef, undef, undef, undef, undef, undef, undef, undef, undef, undef], []⟩) [(0, 0, 0), (0, 0, 0), (0, 0, 0), (0, 0, 0), (0, 0, 0), (0, 0, 0), (1, 8, 2), (1, 9, 5), (3, 6, 2), (3, 7, 5)] (fun i => ([[], [], [], [], [], [], [.int .i64 0, .int .i64 0, .int .i64 0], [.int .i64 0, .int .i64 0, .int .i64 0], [], []] : List (List Value)).getD i []) [.val (.agg #[.int .i64 y1, .int .i64 y2, .int .i64 y3]), .val (.agg #[.int .i64 d1, .int .i64 d2, .int .i64 d3]), .val (.agg #[.int .i64 n1, .int .i64 n2, .int .i64 n3]), .val (.agg #[.int .i64 y1, .int .i64 y2, .int .i64 y3]), .val (.agg #[.int .i64 k1, .int .i64 k2, .int .i64 k3]), .val (.agg #[.int .i64 m1, .int .i64 m2, .int .i64 m3]), .none, .none, .none, .none] [[], [], [0, 1], [], [], [3, 4], [], [], [2, 6], [5, 7]] [0, 1, 2, 3, 4, 5] [6, 7] [8, 9] [] (fun i => ([0, 0, 0, 0, 0, 0, 23, 23, 0, 0] : List TypeId).getD i 0) W13 (by kernel_rfl) (by kernel_rfl) (by kernel_rfl) (by kernel_rfl) (by kernel_rfl) ?dist ?olds ?op ?al ?st ?into ?fin (upd (upd (upd (upd (upd (upd (upd (upd (fun _ => undef) 0 (u143)) 1 (u144)) 2 (u145)) 3 (u146)) 4 (u147)) 5 (u148)) 6 (u20)) 7 (u21)) _ _ (by kernel_rfl) (of_decide_eq_true (by kernel_rfl)) (of_decide_eq_true (by kernel_rfl))
            case hn => rfl
            case dist => intro i hi j hj; simp at hi hj; try omega
            case olds => exact nofun
            case op =>
              repeat' first | exact Each.nil | refine Each.cons ?_ ?_
              all_goals intro X w7 H hb hD h
              · have hv := v9.below (show Keep [] _ _ from hb).nil
                have c0_ := hv.at 0 rfl
                have c1_ := hv.at 1 rfl
                have c2_ := hv.at 2 rfl
                refine tv rfl (by rfl) ?_ (by exact h _ w7 rfl (Below.refl _ _))
                go_simp <;> first | rfl | (simp only [IntWalk.i64_left]; rfl) | (simp only [IntWalk.i64_left, *]; done) | (simp only [IntWalk.i64_left, *]; rfl)
              · have hv := v6.below (show Keep [] _ _ from hb).nil
                have c0_ := hv.at 0 rfl
                have c1_ := hv.at 1 rfl
                have c2_ := hv.at 2 rfl
                refine tv rfl (by rfl) ?_ (by exact h _ w7 rfl (Below.refl _ _))
                go_simp <;> first | rfl | (simp only [IntWalk.i64_left]; rfl) | (simp only [IntWalk.i64_left, *]; done) | (simp only [IntWalk.i64_left, *]; rfl)
              · have e0_ : X 0 = _ := hD 0 (by decide) rfl
                have e1_ : X 1 = _ := hD 1 (by decide) rfl
                refine wpOp_call (i := 2) (f := 15) (args := #[.agg #[.int .i64 y1, .int .i64 y2, .int .i64 y3], .agg #[.int .i64 d1, .int .i64 d2, .int .i64 d3]]) 145 rfl rfl (by simp only [e0_, e1_]; rfl) (by simp only [e0_, e1_]; go_simp) ?_
                refine (cN.out _).mono ?_
                rintro e w8 ⟨rfl, hk⟩
                exact ⟨_, rfl, h _ w8 rfl hk⟩
              · have hv := v9.below (show Keep [] _ _ from hb).nil
                have c0_ := hv.at 0 rfl
                have c1_ := hv.at 1 rfl
                have c2_ := hv.at 2 rfl
                refine tv rfl (by rfl) ?_ (by exact h _ w7 rfl (Below.refl _ _))
                go_simp <;> first | rfl | (simp only [IntWalk.i64_left]; rfl) | (simp only [IntWalk.i64_left, *]; done) | (simp only [IntWalk.i64_left, *]; rfl)
              · have hv := v8.below (show Keep [] _ _ from hb).nil
                have c0_ := hv.at 0 rfl
                have c1_ := hv.at 1 rfl
                have c2_ := hv.at 2 rfl
                refine tv rfl (by rfl) ?_ (by exact h _ w7 rfl (Below.refl _ _))
                go_simp <;> first | rfl | (simp only [IntWalk.i64_left]; rfl) | (simp only [IntWalk.i64_left, *]; done) | (simp only [IntWalk.i64_left, *]; rfl)
              · have e3_ : X 3 = _ := hD 3 (by decide) rfl
                have e4_ : X 4 = _ := hD 4 (by decide) rfl
                refine wpOp_call (i := 5) (f := 15) (args := #[.agg #[.int .i64 y1, .int .i64 y2, .int .i64 y3], .agg #[.int .i64 k1, .int .i64 k2, .int .i64 k3]]) 148 rfl rfl (by simp only [e3_, e4_]; rfl) (by simp only [e3_, e4_]; go_simp) ?_
                refine (cM.out _).mono ?_
                rintro e w8 ⟨rfl, hk⟩
                exact ⟨_, rfl, h _ w8 rfl hk⟩
            case al =>
              repeat' first | exact Each.nil | refine Each.cons ?_ ?_
              all_goals exact fun X w7 H h => wpOp_run rfl (by go_simp; exact h)
            case st =>
              repeat' first | exact Each.nil | refine Each.cons ?_ ?_
              all_goals intro X w7 H b hX hC hG h
              · replace hX : X 6 = .pointer (some ⟨b, 0, none⟩) := hX
                have e : X 2 = _ := hG
                have c0_ := hC.at 0 rfl
                have z0_ := hC.fr 0 (by decide)
                have c1_ := hC.at 1 rfl
                have z1_ := hC.fr 1 (by decide)
                have c2_ := hC.at 2 rfl
                have z2_ := hC.fr 2 (by decide)
                refine wpOp_run rfl ?_
                have h := h (by show _ = (vc (X 2)).length; rw [e]; rfl)
                simp only [hX] at h ⊢
                replace h : H _ (putC b w7 0 (vc (X 2))) := h
                simp only [e] at h ⊢
                go_simp
                exact h
              · replace hX : X 7 = .pointer (some ⟨b, 0, none⟩) := hX
                have e : X 5 = _ := hG
                have c0_ := hC.at 0 rfl
                have z0_ := hC.fr 0 (by decide)
                have c1_ := hC.at 1 rfl
                have z1_ := hC.fr 1 (by decide)
                have c2_ := hC.at 2 rfl
                have z2_ := hC.fr 2 (by decide)
                refine wpOp_run rfl ?_
                have h := h (by show _ = (vc (X 5)).length; rw [e]; rfl)
                simp only [hX] at h ⊢
                replace h : H _ (putC b w7 0 (vc (X 5))) := h
                simp only [e] at h ⊢
                go_simp
                exact h
            case into => exact Each.nil
            case fin =>
              intro X15_ W14 hI
              have hE : Keep [] W13 W14 := hI.keep
              have e2_ : X15_ 2 = _ := hI.fact 2 (by decide) rfl rfl
              have e5_ : X15_ 5 = _ := hI.fact 5 (by decide) rfl rfl
              obtain ⟨b10, e6_, lob10, v10⟩ := hI.box 6 (by decide) rfl (by decide)
              replace v10 : Var W14 b10 (vc (X15_ 2)) := v10
              rw [e2_] at v10
              replace v10 : Var W14 b10 [.int .i64 n1, .int .i64 n2, .int .i64 n3] := v10
              replace lob10 : w.heap.size ≤ b10 := Nat.le_trans hB.size lob10
              obtain ⟨b11, e7_, lob11, v11⟩ := hI.box 7 (by decide) rfl (by decide)
              replace v11 : Var W14 b11 (vc (X15_ 5)) := v11
              rw [e5_] at v11
              replace v11 : Var W14 b11 [.int .i64 m1, .int .i64 m2, .int .i64 m3] := v11
              replace lob11 : w.heap.size ≤ b11 := Nat.le_trans hB.size lob11
              have v3 := v3.below hE.nil
              have v4 := v4.below hE.nil
              have v6 := v6.below hE.nil
              have v7 := v7.below hE.nil
              have v8 := v8.below hE.nil
              have hv := hv.below hE.nil
              have v9 := v9.below hE.nil
              have hB := hB.trans (hE.nil.mono hB.size)
              simp only [e2_, e5_, e6_, e7_]
              clear e2_ e5_ e6_ e7_ hI hE
              clear d0_ d1_ d2_
              cases gle
              ·
                skip
                cases bm
                ·
                  skip
                  go_wp2_with fail
                  refine wp_region_dag (by kernel_rfl) ?_
                  intro W15 hk
                  have hs := hk
                  have v3 := v3.below hs
                  have v4 := v4.below hs
                  have v6 := v6.below hs
                  have v7 := v7.below hs
                  have v8 := v8.below hs
                  have hv := hv.below hs
                  have v9 := v9.below hs
                  have v10 := v10.below hs
                  have v11 := v11.below hs
                  have hB := hB.trans (hs.mono hB.size)
                  clear hs hk
                  refine dagV (fun _ => trivial) 27 ?hn (fun X => ⟨#[.agg #[.slice a0 len0 cap0, .slice a1 len1 cap1], .slice (some ad) len cap, .agg #[.int .u8 (e0 : Int), .int .u8 (e1 : Int), .int .u8 (e2 : Int)], .agg #[.int .u8 (g0 : Int), .int .u8 (g1 : Int), .int .u8 (g2 : Int)], .pointer (some ⟨b0, 0, none⟩), undef, .pointer (some ⟨b1, 0, none⟩), .pointer (some ⟨b2, 0, none⟩), u8, .bool true, .pointer (some ⟨b3, 0, none⟩), .pointer (some ⟨b4, 0, none⟩), .pointer (some ⟨b5, 0, none⟩), .pointer (some ⟨b6, 0, none⟩), .int .i64 r, .pointer (some ⟨b7, 0, none⟩), .bool true, .pointer (some ⟨b8, 0, none⟩), undef, .pointer (some ⟨b9, 0, none⟩), .pointer (some ⟨b10, 0, none⟩), .pointer (some ⟨b11, 0, none⟩), undef, undef, .bool true, X2_ 0, X2_ 1, X2_ 2, X2_ 3, X2_ 4, X2_ 5, X2_ 6, .agg #[.int .i64 p1, .int .i64 p2, .int .i64 p3, .int .i64 p4], X2_ 8, X2_ 9, X2_ 10, X2_ 11, X2_ 12, X2_ 13, X2_ 14, .agg #[.int .i64 q1, .int .i64 q2, .int .i64 q3, .int .i64 q4], .pointer (some ⟨b1, 0, none⟩), .int .u8 (e0 : Int), .int .i64 (e0 : Int), .int .i64 ((e0 : Int) % 13), .pointer (some ⟨b1, 1, none⟩), .int .u8 (e1 : Int), .int .i64 (e1 : Int), .int .i64 ((e1 : Int) % 13), .pointer (some ⟨b1, 2, none⟩), .int .u8 (e2 : Int), .int .i64 (e2 : Int), .int .i64 ((e2 : Int) % 13), .agg #[.int .i64 (h1 : Int), .int .i64 (h2 : Int), .int .i64 (h3 : Int)], X4_ 0, X4_ 1, X4_ 2, X4_ 3, X4_ 4, X4_ 5, X4_ 6, X4_ 7, X4_ 8, X4_ 9, X4_ 10, X4_ 11, X4_ 12, X4_ 13, X4_ 14, X4_ 15, X4_ 16, X4_ 17, X4_ 18, X4_ 19, X4_ 20, X4_ 21, X4_ 22, X4_ 23, X4_ 24, X4_ 25, X4_ 26, X4_ 27, X4_ 28, X4_ 29, X4_ 30, X4_ 31, X4_ 32, .agg #[.int .i64 d1, .int .i64 d2, .int .i64 d3], .pointer (some ⟨b3, 0, none⟩), .agg #[.int .i64 p1, .int .i64 p2, .int .i64 p3], .agg #[.int .i64 (h1 : Int), .int .i64 (h2 : Int), .int .i64 (h3 : Int)], .int .i64 r, .tuple #[.agg #[.int .i64 p1, .int .i64 p2, .int .i64 p3, .int .i64 pb], .bool true], .agg #[.int .i64 p1, .int .i64 p2, .int .i64 p3, .int .i64 p4], .int .i64 r, .tuple #[.agg #[.int .i64 p1, .int .i64 p2, .int .i64 p3, .int .i64 pb], .bool true], .agg #[.int .i64 p1, .int .i64 p2, .int .i64 p3, .int .i64 pb], .bool true, .bool true, .bool false, .bool false, .int .i64 r, .bool (decide (r < 0)), .bool (decide (r < 0)), X9_ 0, X9_ 1, X9_ 2, X9_ 3, X9_ 4, X9_ 5, X9_ 6, X9_ 7, X9_ 8, X9_ 9, X9_ 10, X9_ 11, X9_ 12, X9_ 13, X9_ 14, X9_ 15, X9_ 16, X9_ 17, X9_ 18, X9_ 19, X9_ 20, .agg #[.int .i64 k1, .int .i64 k2, .int .i64 k3], .pointer (some ⟨b3, 0, none⟩), .agg #[.int .i64 p1, .int .i64 p2, .int .i64 p3], .agg #[.int .i64 k1, .int .i64 k2, .int .i64 k3], .int .i64 r, .int .i64 r, .bool false, .slice (some ad) len cap, .slice (some ad) len cap, .int .i64 (len : Int), .int .i64 (len : Int), .slice (some ad) len cap, .slice (some ⟨g, 0, none⟩) 4 c, .int .i64 4, .int .i64 (k : Int), .bool true, .pointer (some ⟨g, k * 3, none⟩), .agg #[.int .i64 y1, .int .i64 y2, .int .i64 y3], X15_ 0, X15_ 1, .agg #[.int .i64 n1, .int .i64 n2, .int .i64 n3], X15_ 3, X15_ 4, .agg #[.int .i64 m1, .int .i64 m2, .int .i64 m3], X 0, X 1, X 2, X 3, X 4, X 5, X 6, X 7, X 8, X 9, X 10, X 11, X 12, X 13, X 14, X 15, X 16, X 17, X 18, X 19, X 20, X 21, X 22, X 23, X 24, X 25, X 26, u176, undef, undef, undef, undef, undef, undef, undef, undef, undef, undef, undef, undef, undef, undef, undef, undef, undef, undef, undef, undef, undef, undef, undef, undef, undef, undef, undef, undef, undef, undef, undef, undef, undef, undef, undef, undef, undef, undef, undef, undef, undef, undef, undef, undef, undef, undef, undef, undef, undef, undef, undef, undef, undef, undef, undef, undef, undef], []⟩) [(0, 0, 0), (0, 0, 0), (0, 0, 0), (0, 0, 0), (0, 0, 0), (0, 0, 0), (0, 0, 0), (0, 0, 0), (0, 0, 0), (0, 0, 0), (0, 0, 0), (0, 0, 0), (0, 0, 0), (0, 0, 0), (0, 0, 0), (0, 0, 0), (0, 0, 0), (0, 0, 0), (0, 0, 0), (0, 0, 0), (0, 0, 0), (0, 0, 0), (0, 0, 0), (0, 0, 0), (0, 0, 0), (0, 0, 0), (0, 0, 0)] (fun _ => []) [.val (.agg #[.int .i64 p1, .int .i64 p2, .int .i64 p3, .int .i64 p4]), .val (.agg #[.int .i64 y1, .int .i64 y2, .int .i64 y3]), .val (.int .i64 sv), .val (.bool false), .val (.bool false), .val undef, .val undef, .val (.bool false), .val (.bool false), .val undef, .val undef, .val undef, .val undef, .val (.bool false), .val (.bool false), .val (.agg #[.int .i64 m1, .int .i64 m2, .int .i64 m3]), .val (.bool false), .val (.bool false), .val undef, .val undef, .val undef, .val undef, .val undef, .val undef, .val undef, .val (.bool false), .val (.bool false)] [[], [], [0, 1], [2], [3], [4], [4, 5], [4, 6], [7], [8], [8], [8, 9, 10], [8, 11], [8, 12], [13], [14], [14, 15], [14, 16], [17], [17], [17, 18, 19], [17], [17], [17, 21, 22], [17, 20, 23], [14, 17, 24], [14, 25]] [0, 1, 2, 3, 4, 5, 6, 7, 8, 9, 10, 11, 12, 13, 14, 15, 16, 17, 18, 19, 20, 21, 22, 23, 24, 25, 26] [] [] [] (fun _ => 0) W15 (by kernel_rfl) (by kernel_rfl) (by kernel_rfl) (by kernel_rfl) (by kernel_rfl) ?dist ?olds ?op ?al ?st ?into ?fin (upd (upd (upd (upd (upd (upd (upd (upd (upd (upd (upd (upd (upd (upd (upd (upd (upd (upd (upd (upd (upd (upd (upd (upd (upd (upd (upd (fun _ => undef) 0 (u149)) 1 (u150)) 2 (u151)) 3 (u152)) 4 (u153)) 5 (u154)) 6 (u155)) 7 (u156)) 8 (u157)) 9 (u158)) 10 (u159)) 11 (u160)) 12 (u161)) 13 (u162)) 14 (u163)) 15 (u164)) 16 (u165)) 17 (u166)) 18 (u167)) 19 (u168)) 20 (u169)) 21 (u170)) 22 (u171)) 23 (u172)) 24 (u173)) 25 (u174)) 26 (u175)) _ _ (by kernel_rfl) (of_decide_eq_true (by kernel_rfl)) (of_decide_eq_true (by kernel_rfl))
                  case hn => rfl
                  case dist => intro i hi j hj; simp at hi hj; try omega
                  case olds => exact nofun
                  case op =>
                    repeat' first | exact Each.nil | refine Each.cons ?_ ?_
                    all_goals intro X w7 H hb hD h
                    · have hv := v3.below (show Keep [] _ _ from hb).nil
                      have c0_ := hv.at 0 rfl
                      have c1_ := hv.at 1 rfl
                      have c2_ := hv.at 2 rfl
                      have c3_ := hv.at 3 rfl
                      refine tv rfl (by rfl) ?_ (by exact h _ w7 rfl (Below.refl _ _))
                      go_simp <;> first | rfl | (simp only [IntWalk.i64_left]; rfl) | (simp only [IntWalk.i64_left, *]; done) | (simp only [IntWalk.i64_left, *]; rfl)
                    · have hv := v9.below (show Keep [] _ _ from hb).nil
                      have c0_ := hv.at 0 rfl
                      have c1_ := hv.at 1 rfl
                      have c2_ := hv.at 2 rfl
                      refine tv rfl (by rfl) ?_ (by exact h _ w7 rfl (Below.refl _ _))
                      go_simp <;> first | rfl | (simp only [IntWalk.i64_left]; rfl) | (simp only [IntWalk.i64_left, *]; done) | (simp only [IntWalk.i64_left, *]; rfl)
                    · have e0_ : X 0 = _ := hD 0 (by decide) rfl
                      have e1_ : X 1 = _ := hD 1 (by decide) rfl
                      refine wpOp_call (i := 2) (f := 33) (args := #[.agg #[.int .i64 p1, .int .i64 p2, .int .i64 p3, .int .i64 p4], .agg #[.int .i64 y1, .int .i64 y2, .int .i64 y3]]) 151 rfl rfl (by simp only [e0_, e1_]; rfl) (by simp only [e0_, e1_]; go_simp) ?_
                      refine (cS.out _).mono ?_
                      rintro e w8 ⟨rfl, hk⟩
                      exact ⟨_, rfl, h _ w8 rfl hk⟩
                    · have e2_ : X 2 = _ := hD 2 (by decide) rfl
                      have f_ := hle
                      refine tv rfl (by simp only [e2_]; rfl) ?_ (by exact h _ w7 rfl (Below.refl _ _))
                      simp only [e2_]; go_simp <;> first | rfl | (simp only [IntWalk.i64_left]; rfl) | (simp only [IntWalk.i64_left, *]; done) | (simp only [IntWalk.i64_left, *]; rfl)
                    · have e3_ : X 3 = _ := hD 3 (by decide) rfl
                      refine tv rfl (by simp only [e3_]; rfl) ?_ (by exact h _ w7 rfl (Below.refl _ _))
                      simp only [e3_]; go_simp <;> first | rfl | (simp only [IntWalk.i64_left]; rfl) | (simp only [IntWalk.i64_left, *]; done) | (simp only [IntWalk.i64_left, *]; rfl)
                    · have e4_ : X 4 = _ := hD 4 (by decide) rfl
                      refine tu rfl (by simp only [e4_]; rfl) ?_
                      exact h _ w7 rfl (Below.refl _ _)
                    · have e4_ : X 4 = _ := hD 4 (by decide) rfl
                      have e5_ : X 5 = _ := hD 5 (by decide) rfl
                      refine tu rfl (by simp only [e4_, e5_]; rfl) ?_
                      exact h _ w7 rfl (Below.refl _ _)
                    · have e4_ : X 4 = _ := hD 4 (by decide) rfl
                      have e6_ : X 6 = _ := hD 6 (by decide) rfl
                      refine tv rfl (by simp only [e4_, e6_]; rfl) ?_ (by exact h _ w7 rfl (Below.refl _ _))
                      simp only [e4_, e6_]; go_simp <;> first | rfl | (simp only [IntWalk.i64_left]; rfl) | (simp only [IntWalk.i64_left, *]; done) | (simp only [IntWalk.i64_left, *]; rfl)
                    · have e7_ : X 7 = _ := hD 7 (by decide) rfl
                      refine tv rfl (by simp only [e7_]; rfl) ?_ (by exact h _ w7 rfl (Below.refl _ _))
                      simp only [e7_]; go_simp <;> first | rfl | (simp only [IntWalk.i64_left]; rfl) | (simp only [IntWalk.i64_left, *]; done) | (simp only [IntWalk.i64_left, *]; rfl)
                    · have e8_ : X 8 = _ := hD 8 (by decide) rfl
                      refine tu rfl (by simp only [e8_]; rfl) ?_
                      exact h _ w7 rfl (Below.refl _ _)
                    · have e8_ : X 8 = _ := hD 8 (by decide) rfl
                      refine tu rfl (by simp only [e8_]; rfl) ?_
                      exact h _ w7 rfl (Below.refl _ _)
                    · have e8_ : X 8 = _ := hD 8 (by decide) rfl
                      have e9_ : X 9 = _ := hD 9 (by decide) rfl
                      have e10_ : X 10 = _ := hD 10 (by decide) rfl
                      refine tu rfl (by simp only [e8_, e9_, e10_]; rfl) ?_
                      exact h _ w7 rfl (Below.refl _ _)
                    · have e8_ : X 8 = _ := hD 8 (by decide) rfl
                      have e11_ : X 11 = _ := hD 11 (by decide) rfl
                      refine tu rfl (by simp only [e8_, e11_]; rfl) ?_
                      exact h _ w7 rfl (Below.refl _ _)
                    · have e8_ : X 8 = _ := hD 8 (by decide) rfl
                      have e12_ : X 12 = _ := hD 12 (by decide) rfl
                      refine tv rfl (by simp only [e8_, e12_]; rfl) ?_ (by exact h _ w7 rfl (Below.refl _ _))
                      simp only [e8_, e12_]; go_simp <;> first | rfl | (simp only [IntWalk.i64_left]; rfl) | (simp only [IntWalk.i64_left, *]; done) | (simp only [IntWalk.i64_left, *]; rfl)
                    · have e13_ : X 13 = _ := hD 13 (by decide) rfl
                      refine tv rfl (by simp only [e13_]; rfl) ?_ (by exact h _ w7 rfl (Below.refl _ _))
                      simp only [e13_]; go_simp <;> first | rfl | (simp only [IntWalk.i64_left]; rfl) | (simp only [IntWalk.i64_left, *]; done) | (simp only [IntWalk.i64_left, *]; rfl)
                    · have e14_ : X 14 = _ := hD 14 (by decide) rfl
                      have hv := v11.below (show Keep [] _ _ from hb).nil
                      have c0_ := hv.at 0 rfl
                      have c1_ := hv.at 1 rfl
                      have c2_ := hv.at 2 rfl
                      refine tv rfl (by simp only [e14_]; rfl) ?_ (by exact h _ w7 rfl (Below.refl _ _))
                      simp only [e14_]; go_simp <;> first | rfl | (simp only [IntWalk.i64_left]; rfl) | (simp only [IntWalk.i64_left, *]; done) | (simp only [IntWalk.i64_left, *]; rfl)
                    · have e14_ : X 14 = _ := hD 14 (by decide) rfl
                      have e15_ : X 15 = _ := hD 15 (by decide) rfl
                      refine wpOp_call (i := 16) (f := 13) (args := #[.agg #[.int .i64 m1, .int .i64 m2, .int .i64 m3]]) 165 rfl rfl (by simp only [e14_, e15_]; rfl) (by simp only [e14_, e15_]; go_simp) ?_
                      refine (cJ.out _).mono ?_
                      rintro e w8 ⟨rfl, hk⟩
                      exact ⟨_, rfl, h _ w8 rfl hk⟩
                    · have e14_ : X 14 = _ := hD 14 (by decide) rfl
                      have e16_ : X 16 = _ := hD 16 (by decide) rfl
                      refine tv rfl (by simp only [e14_, e16_]; rfl) ?_ (by exact h _ w7 rfl (Below.refl _ _))
                      simp only [e14_, e16_]; go_simp <;> first | rfl | (simp only [IntWalk.i64_left]; rfl) | (simp only [IntWalk.i64_left, *]; done) | (simp only [IntWalk.i64_left, *]; rfl)
                    · have e17_ : X 17 = _ := hD 17 (by decide) rfl
                      refine tu rfl (by simp only [e17_]; rfl) ?_
                      exact h _ w7 rfl (Below.refl _ _)
                    · have e17_ : X 17 = _ := hD 17 (by decide) rfl
                      refine tu rfl (by simp only [e17_]; rfl) ?_
                      exact h _ w7 rfl (Below.refl _ _)
                    · have e17_ : X 17 = _ := hD 17 (by decide) rfl
                      have e18_ : X 18 = _ := hD 18 (by decide) rfl
                      have e19_ : X 19 = _ := hD 19 (by decide) rfl
                      refine tu rfl (by simp only [e17_, e18_, e19_]; rfl) ?_
                      exact h _ w7 rfl (Below.refl _ _)
                    · have e17_ : X 17 = _ := hD 17 (by decide) rfl
                      refine tu rfl (by simp only [e17_]; rfl) ?_
                      exact h _ w7 rfl (Below.refl _ _)
                    · have e17_ : X 17 = _ := hD 17 (by decide) rfl
                      refine tu rfl (by simp only [e17_]; rfl) ?_
                      exact h _ w7 rfl (Below.refl _ _)
                    · have e17_ : X 17 = _ := hD 17 (by decide) rfl
                      have e21_ : X 21 = _ := hD 21 (by decide) rfl
                      have e22_ : X 22 = _ := hD 22 (by decide) rfl
                      refine tu rfl (by simp only [e17_, e21_, e22_]; rfl) ?_
                      exact h _ w7 rfl (Below.refl _ _)
                    · have e17_ : X 17 = _ := hD 17 (by decide) rfl
                      have e20_ : X 20 = _ := hD 20 (by decide) rfl
                      have e23_ : X 23 = _ := hD 23 (by decide) rfl
                      refine tu rfl (by simp only [e17_, e20_, e23_]; rfl) ?_
                      exact h _ w7 rfl (Below.refl _ _)
                    · have e14_ : X 14 = _ := hD 14 (by decide) rfl
                      have e17_ : X 17 = _ := hD 17 (by decide) rfl
                      have e24_ : X 24 = _ := hD 24 (by decide) rfl
                      refine tv rfl (by simp only [e14_, e17_, e24_]; rfl) ?_ (by exact h _ w7 rfl (Below.refl _ _))
                      simp only [e14_, e17_, e24_]; go_simp <;> first | rfl | (simp only [IntWalk.i64_left]; rfl) | (simp only [IntWalk.i64_left, *]; done) | (simp only [IntWalk.i64_left, *]; rfl)
                    · have e14_ : X 14 = _ := hD 14 (by decide) rfl
                      have e25_ : X 25 = _ := hD 25 (by decide) rfl
                      refine tv rfl (by simp only [e14_, e25_]; rfl) ?_ (by exact h _ w7 rfl (Below.refl _ _))
                      simp only [e14_, e25_]; go_simp <;> first | rfl | (simp only [IntWalk.i64_left]; rfl) | (simp only [IntWalk.i64_left, *]; done) | (simp only [IntWalk.i64_left, *]; rfl)
                  case al => exact Each.nil
                  case st => exact Each.nil
                  case into => exact Each.nil
                  case fin =>
                    intro X16_ W16 hI
                    have hE : Keep [] W15 W16 := hI.keep
                    have e26_ : X16_ 26 = _ := hI.fact 26 (by decide) rfl rfl
                    have v3 := v3.below hE.nil
                    have v4 := v4.below hE.nil
                    have v6 := v6.below hE.nil
                    have v7 := v7.below hE.nil
                    have v8 := v8.below hE.nil
                    have hv := hv.below hE.nil
                    have v9 := v9.below hE.nil
                    have v10 := v10.below hE.nil
                    have v11 := v11.below hE.nil
                    have hB := hB.trans (hE.nil.mono hB.size)
                    simp only [e26_]
                    clear e26_ hI hE
                    go_wp2_with fail
                    have hBs := hB.size
                    go_roundw
                    case rel => first | exact ⟨k + 1, by omega, by simp, by repeat (first | exact hB | refine Below.alloc ?_ (by first | omega | (simp; try omega)) _ | refine Below.setCell ?_ (by first | omega | (simp; try omega)) _), v3, v4, v6, v7, v8, hv⟩ | ((repeat apply Exists.intro); refine ⟨⟨k + 1, by omega, by simp, by repeat (first | exact hB | refine Below.alloc ?_ (by first | omega | (simp; try omega)) _ | refine Below.setCell ?_ (by first | omega | (simp; try omega)) _), v3, v4, v6, v7, v8, hv⟩, rfl⟩)
                    case measure => simp [intOf]; omega
                ·
                  skip
                  go_wp2_with fail
                  refine wp_region_dag (by kernel_rfl) ?_
                  intro W15 hk
                  have hs := hk
                  have v3 := v3.below hs
                  have v4 := v4.below hs
                  have v6 := v6.below hs
                  have v7 := v7.below hs
                  have v8 := v8.below hs
                  have hv := hv.below hs
                  have v9 := v9.below hs
                  have v10 := v10.below hs
                  have v11 := v11.below hs
                  have hB := hB.trans (hs.mono hB.size)
                  clear hs hk
                  refine dagV (fun _ => trivial) 27 ?hn (fun X => ⟨#[.agg #[.slice a0 len0 cap0, .slice a1 len1 cap1], .slice (some ad) len cap, .agg #[.int .u8 (e0 : Int), .int .u8 (e1 : Int), .int .u8 (e2 : Int)], .agg #[.int .u8 (g0 : Int), .int .u8 (g1 : Int), .int .u8 (g2 : Int)], .pointer (some ⟨b0, 0, none⟩), undef, .pointer (some ⟨b1, 0, none⟩), .pointer (some ⟨b2, 0, none⟩), u8, .bool true, .pointer (some ⟨b3, 0, none⟩), .pointer (some ⟨b4, 0, none⟩), .pointer (some ⟨b5, 0, none⟩), .pointer (some ⟨b6, 0, none⟩), .int .i64 r, .pointer (some ⟨b7, 0, none⟩), .bool true, .pointer (some ⟨b8, 0, none⟩), undef, .pointer (some ⟨b9, 0, none⟩), .pointer (some ⟨b10, 0, none⟩), .pointer (some ⟨b11, 0, none⟩), undef, undef, .bool true, X2_ 0, X2_ 1, X2_ 2, X2_ 3, X2_ 4, X2_ 5, X2_ 6, .agg #[.int .i64 p1, .int .i64 p2, .int .i64 p3, .int .i64 p4], X2_ 8, X2_ 9, X2_ 10, X2_ 11, X2_ 12, X2_ 13, X2_ 14, .agg #[.int .i64 q1, .int .i64 q2, .int .i64 q3, .int .i64 q4], .pointer (some ⟨b1, 0, none⟩), .int .u8 (e0 : Int), .int .i64 (e0 : Int), .int .i64 ((e0 : Int) % 13), .pointer (some ⟨b1, 1, none⟩), .int .u8 (e1 : Int), .int .i64 (e1 : Int), .int .i64 ((e1 : Int) % 13), .pointer (some ⟨b1, 2, none⟩), .int .u8 (e2 : Int), .int .i64 (e2 : Int), .int .i64 ((e2 : Int) % 13), .agg #[.int .i64 (h1 : Int), .int .i64 (h2 : Int), .int .i64 (h3 : Int)], X4_ 0, X4_ 1, X4_ 2, X4_ 3, X4_ 4, X4_ 5, X4_ 6, X4_ 7, X4_ 8, X4_ 9, X4_ 10, X4_ 11, X4_ 12, X4_ 13, X4_ 14, X4_ 15, X4_ 16, X4_ 17, X4_ 18, X4_ 19, X4_ 20, X4_ 21, X4_ 22, X4_ 23, X4_ 24, X4_ 25, X4_ 26, X4_ 27, X4_ 28, X4_ 29, X4_ 30, X4_ 31, X4_ 32, .agg #[.int .i64 d1, .int .i64 d2, .int .i64 d3], .pointer (some ⟨b3, 0, none⟩), .agg #[.int .i64 p1, .int .i64 p2, .int .i64 p3], .agg #[.int .i64 (h1 : Int), .int .i64 (h2 : Int), .int .i64 (h3 : Int)], .int .i64 r, .tuple #[.agg #[.int .i64 p1, .int .i64 p2, .int .i64 p3, .int .i64 pb], .bool true], .agg #[.int .i64 p1, .int .i64 p2, .int .i64 p3, .int .i64 p4], .int .i64 r, .tuple #[.agg #[.int .i64 p1, .int .i64 p2, .int .i64 p3, .int .i64 pb], .bool true], .agg #[.int .i64 p1, .int .i64 p2, .int .i64 p3, .int .i64 pb], .bool true, .bool true, .bool false, .bool false, .int .i64 r, .bool (decide (r < 0)), .bool (decide (r < 0)), X9_ 0, X9_ 1, X9_ 2, X9_ 3, X9_ 4, X9_ 5, X9_ 6, X9_ 7, X9_ 8, X9_ 9, X9_ 10, X9_ 11, X9_ 12, X9_ 13, X9_ 14, X9_ 15, X9_ 16, X9_ 17, X9_ 18, X9_ 19, X9_ 20, .agg #[.int .i64 k1, .int .i64 k2, .int .i64 k3], .pointer (some ⟨b3, 0, none⟩), .agg #[.int .i64 p1, .int .i64 p2, .int .i64 p3], .agg #[.int .i64 k1, .int .i64 k2, .int .i64 k3], .int .i64 r, .int .i64 r, .bool false, .slice (some ad) len cap, .slice (some ad) len cap, .int .i64 (len : Int), .int .i64 (len : Int), .slice (some ad) len cap, .slice (some ⟨g, 0, none⟩) 4 c, .int .i64 4, .int .i64 (k : Int), .bool true, .pointer (some ⟨g, k * 3, none⟩), .agg #[.int .i64 y1, .int .i64 y2, .int .i64 y3], X15_ 0, X15_ 1, .agg #[.int .i64 n1, .int .i64 n2, .int .i64 n3], X15_ 3, X15_ 4, .agg #[.int .i64 m1, .int .i64 m2, .int .i64 m3], X 0, X 1, X 2, X 3, X 4, X 5, X 6, X 7, X 8, X 9, X 10, X 11, X 12, X 13, X 14, X 15, X 16, X 17, X 18, X 19, X 20, X 21, X 22, X 23, X 24, X 25, X 26, u176, undef, undef, undef, undef, undef, undef, undef, undef, undef, undef, undef, undef, undef, undef, undef, undef, undef, undef, undef, undef, undef, undef, undef, undef, undef, undef, undef, undef, undef, undef, undef, undef, undef, undef, undef, undef, undef, undef, undef, undef, undef, undef, undef, undef, undef, undef, undef, undef, undef, undef, undef, undef, undef, undef, undef, undef, undef], []⟩) [(0, 0, 0), (0, 0, 0), (0, 0, 0), (0, 0, 0), (0, 0, 0), (0, 0, 0), (0, 0, 0), (0, 0, 0), (0, 0, 0), (0, 0, 0), (0, 0, 0), (0, 0, 0), (0, 0, 0), (0, 0, 0), (0, 0, 0), (0, 0, 0), (0, 0, 0), (0, 0, 0), (0, 0, 0), (0, 0, 0), (0, 0, 0), (0, 0, 0), (0, 0, 0), (0, 0, 0), (0, 0, 0), (0, 0, 0), (0, 0, 0)] (fun _ => []) [.val (.agg #[.int .i64 p1, .int .i64 p2, .int .i64 p3, .int .i64 p4]), .val (.agg #[.int .i64 y1, .int .i64 y2, .int .i64 y3]), .val (.int .i64 sv), .val (.bool false), .val (.bool false), .val undef, .val undef, .val (.bool false), .val (.bool false), .val undef, .val undef, .val undef, .val undef, .val (.bool false), .val (.bool false), .val (.agg #[.int .i64 m1, .int .i64 m2, .int .i64 m3]), .val (.bool true), .val (.bool true), .val (.agg #[.int .i64 p1, .int .i64 p2, .int .i64 p3, .int .i64 p4]), .val (.agg #[.int .i64 y1, .int .i64 y2, .int .i64 y3]), .val (.int .i64 sv), .val (.agg #[.int .i64 p1, .int .i64 p2, .int .i64 p3, .int .i64 pb]), .val (.agg #[.int .i64 m1, .int .i64 m2, .int .i64 m3]), .val (.int .i64 sv), .val (.bool false), .val (.bool false), .val (.bool false)] [[], [], [0, 1], [2], [3], [4], [4, 5], [4, 6], [7], [8], [8], [8, 9, 10], [8, 11], [8, 12], [13], [14], [14, 15], [14, 16], [17], [17], [17, 18, 19], [17], [17], [17, 21, 22], [17, 20, 23], [14, 17, 24], [14, 25]] [0, 1, 2, 3, 4, 5, 6, 7, 8, 9, 10, 11, 12, 13, 14, 15, 16, 17, 18, 19, 20, 21, 22, 23, 24, 25, 26] [] [] [] (fun _ => 0) W15 (by kernel_rfl) (by kernel_rfl) (by kernel_rfl) (by kernel_rfl) (by kernel_rfl) ?dist ?olds ?op ?al ?st ?into ?fin (upd (upd (upd (upd (upd (upd (upd (upd (upd (upd (upd (upd (upd (upd (upd (upd (upd (upd (upd (upd (upd (upd (upd (upd (upd (upd (upd (fun _ => undef) 0 (u149)) 1 (u150)) 2 (u151)) 3 (u152)) 4 (u153)) 5 (u154)) 6 (u155)) 7 (u156)) 8 (u157)) 9 (u158)) 10 (u159)) 11 (u160)) 12 (u161)) 13 (u162)) 14 (u163)) 15 (u164)) 16 (u165)) 17 (u166)) 18 (u167)) 19 (u168)) 20 (u169)) 21 (u170)) 22 (u171)) 23 (u172)) 24 (u173)) 25 (u174)) 26 (u175)) _ _ (by kernel_rfl) (of_decide_eq_true (by kernel_rfl)) (of_decide_eq_true (by kernel_rfl))
                  case hn => rfl
                  case dist => intro i hi j hj; simp at hi hj; try omega
                  case olds => exact nofun
                  case op =>
                    repeat' first | exact Each.nil | refine Each.cons ?_ ?_
                    all_goals intro X w7 H hb hD h
                    · have hv := v3.below (show Keep [] _ _ from hb).nil
                      have c0_ := hv.at 0 rfl
                      have c1_ := hv.at 1 rfl
                      have c2_ := hv.at 2 rfl
                      have c3_ := hv.at 3 rfl
                      refine tv rfl (by rfl) ?_ (by exact h _ w7 rfl (Below.refl _ _))
                      go_simp <;> first | rfl | (simp only [IntWalk.i64_left]; rfl) | (simp only [IntWalk.i64_left, *]; done) | (simp only [IntWalk.i64_left, *]; rfl)
                    · have hv := v9.below (show Keep [] _ _ from hb).nil
                      have c0_ := hv.at 0 rfl
                      have c1_ := hv.at 1 rfl
                      have c2_ := hv.at 2 rfl
                      refine tv rfl (by rfl) ?_ (by exact h _ w7 rfl (Below.refl _ _))
                      go_simp <;> first | rfl | (simp only [IntWalk.i64_left]; rfl) | (simp only [IntWalk.i64_left, *]; done) | (simp only [IntWalk.i64_left, *]; rfl)
                    · have e0_ : X 0 = _ := hD 0 (by decide) rfl
                      have e1_ : X 1 = _ := hD 1 (by decide) rfl
                      refine wpOp_call (i := 2) (f := 33) (args := #[.agg #[.int .i64 p1, .int .i64 p2, .int .i64 p3, .int .i64 p4], .agg #[.int .i64 y1, .int .i64 y2, .int .i64 y3]]) 151 rfl rfl (by simp only [e0_, e1_]; rfl) (by simp only [e0_, e1_]; go_simp) ?_
                      refine (cS.out _).mono ?_
                      rintro e w8 ⟨rfl, hk⟩
                      exact ⟨_, rfl, h _ w8 rfl hk⟩
                    · have e2_ : X 2 = _ := hD 2 (by decide) rfl
                      have f_ := hle
                      refine tv rfl (by simp only [e2_]; rfl) ?_ (by exact h _ w7 rfl (Below.refl _ _))
                      simp only [e2_]; go_simp <;> first | rfl | (simp only [IntWalk.i64_left]; rfl) | (simp only [IntWalk.i64_left, *]; done) | (simp only [IntWalk.i64_left, *]; rfl)
                    · have e3_ : X 3 = _ := hD 3 (by decide) rfl
                      refine tv rfl (by simp only [e3_]; rfl) ?_ (by exact h _ w7 rfl (Below.refl _ _))
                      simp only [e3_]; go_simp <;> first | rfl | (simp only [IntWalk.i64_left]; rfl) | (simp only [IntWalk.i64_left, *]; done) | (simp only [IntWalk.i64_left, *]; rfl)
                    · have e4_ : X 4 = _ := hD 4 (by decide) rfl
                      refine tu rfl (by simp only [e4_]; rfl) ?_
                      exact h _ w7 rfl (Below.refl _ _)
                    · have e4_ : X 4 = _ := hD 4 (by decide) rfl
                      have e5_ : X 5 = _ := hD 5 (by decide) rfl
                      refine tu rfl (by simp only [e4_, e5_]; rfl) ?_
                      exact h _ w7 rfl (Below.refl _ _)
                    · have e4_ : X 4 = _ := hD 4 (by decide) rfl
                      have e6_ : X 6 = _ := hD 6 (by decide) rfl
                      refine tv rfl (by simp only [e4_, e6_]; rfl) ?_ (by exact h _ w7 rfl (Below.refl _ _))
                      simp only [e4_, e6_]; go_simp <;> first | rfl | (simp only [IntWalk.i64_left]; rfl) | (simp only [IntWalk.i64_left, *]; done) | (simp only [IntWalk.i64_left, *]; rfl)
                    · have e7_ : X 7 = _ := hD 7 (by decide) rfl
                      refine tv rfl (by simp only [e7_]; rfl) ?_ (by exact h _ w7 rfl (Below.refl _ _))
                      simp only [e7_]; go_simp <;> first | rfl | (simp only [IntWalk.i64_left]; rfl) | (simp only [IntWalk.i64_left, *]; done) | (simp only [IntWalk.i64_left, *]; rfl)
                    · have e8_ : X 8 = _ := hD 8 (by decide) rfl
                      refine tu rfl (by simp only [e8_]; rfl) ?_
                      exact h _ w7 rfl (Below.refl _ _)
                    · have e8_ : X 8 = _ := hD 8 (by decide) rfl
                      refine tu rfl (by simp only [e8_]; rfl) ?_
                      exact h _ w7 rfl (Below.refl _ _)
                    · have e8_ : X 8 = _ := hD 8 (by decide) rfl
                      have e9_ : X 9 = _ := hD 9 (by decide) rfl
                      have e10_ : X 10 = _ := hD 10 (by decide) rfl
                      refine tu rfl (by simp only [e8_, e9_, e10_]; rfl) ?_
                      exact h _ w7 rfl (Below.refl _ _)
                    · have e8_ : X 8 = _ := hD 8 (by decide) rfl
                      have e11_ : X 11 = _ := hD 11 (by decide) rfl
                      refine tu rfl (by simp only [e8_, e11_]; rfl) ?_
                      exact h _ w7 rfl (Below.refl _ _)
                    · have e8_ : X 8 = _ := hD 8 (by decide) rfl
                      have e12_ : X 12 = _ := hD 12 (by decide) rfl
                      refine tv rfl (by simp only [e8_, e12_]; rfl) ?_ (by exact h _ w7 rfl (Below.refl _ _))
                      simp only [e8_, e12_]; go_simp <;> first | rfl | (simp only [IntWalk.i64_left]; rfl) | (simp only [IntWalk.i64_left, *]; done) | (simp only [IntWalk.i64_left, *]; rfl)
                    · have e13_ : X 13 = _ := hD 13 (by decide) rfl
                      refine tv rfl (by simp only [e13_]; rfl) ?_ (by exact h _ w7 rfl (Below.refl _ _))
                      simp only [e13_]; go_simp <;> first | rfl | (simp only [IntWalk.i64_left]; rfl) | (simp only [IntWalk.i64_left, *]; done) | (simp only [IntWalk.i64_left, *]; rfl)
                    · have e14_ : X 14 = _ := hD 14 (by decide) rfl
                      have hv := v11.below (show Keep [] _ _ from hb).nil
                      have c0_ := hv.at 0 rfl
                      have c1_ := hv.at 1 rfl
                      have c2_ := hv.at 2 rfl
                      refine tv rfl (by simp only [e14_]; rfl) ?_ (by exact h _ w7 rfl (Below.refl _ _))
                      simp only [e14_]; go_simp <;> first | rfl | (simp only [IntWalk.i64_left]; rfl) | (simp only [IntWalk.i64_left, *]; done) | (simp only [IntWalk.i64_left, *]; rfl)
                    · have e14_ : X 14 = _ := hD 14 (by decide) rfl
                      have e15_ : X 15 = _ := hD 15 (by decide) rfl
                      refine wpOp_call (i := 16) (f := 13) (args := #[.agg #[.int .i64 m1, .int .i64 m2, .int .i64 m3]]) 165 rfl rfl (by simp only [e14_, e15_]; rfl) (by simp only [e14_, e15_]; go_simp) ?_
                      refine (cJ.out _).mono ?_
                      rintro e w8 ⟨rfl, hk⟩
                      exact ⟨_, rfl, h _ w8 rfl hk⟩
                    · have e14_ : X 14 = _ := hD 14 (by decide) rfl
                      have e16_ : X 16 = _ := hD 16 (by decide) rfl
                      refine tv rfl (by simp only [e14_, e16_]; rfl) ?_ (by exact h _ w7 rfl (Below.refl _ _))
                      simp only [e14_, e16_]; go_simp <;> first | rfl | (simp only [IntWalk.i64_left]; rfl) | (simp only [IntWalk.i64_left, *]; done) | (simp only [IntWalk.i64_left, *]; rfl)
                    · have e17_ : X 17 = _ := hD 17 (by decide) rfl
                      have hv := v3.below (show Keep [] _ _ from hb).nil
                      have c0_ := hv.at 0 rfl
                      have c1_ := hv.at 1 rfl
                      have c2_ := hv.at 2 rfl
                      have c3_ := hv.at 3 rfl
                      refine tv rfl (by simp only [e17_]; rfl) ?_ (by exact h _ w7 rfl (Below.refl _ _))
                      simp only [e17_]; go_simp <;> first | rfl | (simp only [IntWalk.i64_left]; rfl) | (simp only [IntWalk.i64_left, *]; done) | (simp only [IntWalk.i64_left, *]; rfl)
                    · have e17_ : X 17 = _ := hD 17 (by decide) rfl
                      have hv := v9.below (show Keep [] _ _ from hb).nil
                      have c0_ := hv.at 0 rfl
                      have c1_ := hv.at 1 rfl
                      have c2_ := hv.at 2 rfl
                      refine tv rfl (by simp only [e17_]; rfl) ?_ (by exact h _ w7 rfl (Below.refl _ _))
                      simp only [e17_]; go_simp <;> first | rfl | (simp only [IntWalk.i64_left]; rfl) | (simp only [IntWalk.i64_left, *]; done) | (simp only [IntWalk.i64_left, *]; rfl)
                    · have e17_ : X 17 = _ := hD 17 (by decide) rfl
                      have e18_ : X 18 = _ := hD 18 (by decide) rfl
                      have e19_ : X 19 = _ := hD 19 (by decide) rfl
                      refine wpOp_call (i := 20) (f := 33) (args := #[.agg #[.int .i64 p1, .int .i64 p2, .int .i64 p3, .int .i64 p4], .agg #[.int .i64 y1, .int .i64 y2, .int .i64 y3]]) 169 rfl rfl (by simp only [e17_, e18_, e19_]; rfl) (by simp only [e17_, e18_, e19_]; go_simp) ?_
                      refine (cS.out _).mono ?_
                      rintro e w8 ⟨rfl, hk⟩
                      exact ⟨_, rfl, h _ w8 rfl hk⟩
                    · have e17_ : X 17 = _ := hD 17 (by decide) rfl
                      have hv := v7.below (show Keep [] _ _ from hb).nil
                      have c0_ := hv.at 0 rfl
                      have c1_ := hv.at 1 rfl
                      have c2_ := hv.at 2 rfl
                      have c3_ := hv.at 3 rfl
                      refine tv rfl (by simp only [e17_]; rfl) ?_ (by exact h _ w7 rfl (Below.refl _ _))
                      simp only [e17_]; go_simp <;> first | rfl | (simp only [IntWalk.i64_left]; rfl) | (simp only [IntWalk.i64_left, *]; done) | (simp only [IntWalk.i64_left, *]; rfl)
                    · have e17_ : X 17 = _ := hD 17 (by decide) rfl
                      have hv := v11.below (show Keep [] _ _ from hb).nil
                      have c0_ := hv.at 0 rfl
                      have c1_ := hv.at 1 rfl
                      have c2_ := hv.at 2 rfl
                      refine tv rfl (by simp only [e17_]; rfl) ?_ (by exact h _ w7 rfl (Below.refl _ _))
                      simp only [e17_]; go_simp <;> first | rfl | (simp only [IntWalk.i64_left]; rfl) | (simp only [IntWalk.i64_left, *]; done) | (simp only [IntWalk.i64_left, *]; rfl)
                    · have e17_ : X 17 = _ := hD 17 (by decide) rfl
                      have e21_ : X 21 = _ := hD 21 (by decide) rfl
                      have e22_ : X 22 = _ := hD 22 (by decide) rfl
                      refine wpOp_call (i := 23) (f := 33) (args := #[.agg #[.int .i64 p1, .int .i64 p2, .int .i64 p3, .int .i64 pb], .agg #[.int .i64 m1, .int .i64 m2, .int .i64 m3]]) 172 rfl rfl (by simp only [e17_, e21_, e22_]; rfl) (by simp only [e17_, e21_, e22_]; go_simp) ?_
                      refine (cU.out (by first | rfl | trivial) _).mono ?_
                      rintro e w8 ⟨rfl, hk⟩
                      exact ⟨_, rfl, h _ w8 rfl hk⟩
                    · have e17_ : X 17 = _ := hD 17 (by decide) rfl
                      have e20_ : X 20 = _ := hD 20 (by decide) rfl
                      have e23_ : X 23 = _ := hD 23 (by decide) rfl
                      refine tv rfl (by simp only [e17_, e20_, e23_]; rfl) ?_ (by exact h _ w7 rfl (Below.refl _ _))
                      simp only [e17_, e20_, e23_]; go_simp <;> first | rfl | (simp only [IntWalk.i64_left]; rfl) | (simp only [IntWalk.i64_left, *]; done) | (simp only [IntWalk.i64_left, *]; rfl)
                    · have e14_ : X 14 = _ := hD 14 (by decide) rfl
                      have e17_ : X 17 = _ := hD 17 (by decide) rfl
                      have e24_ : X 24 = _ := hD 24 (by decide) rfl
                      refine tv rfl (by simp only [e14_, e17_, e24_]; rfl) ?_ (by exact h _ w7 rfl (Below.refl _ _))
                      simp only [e14_, e17_, e24_]; go_simp <;> first | rfl | (simp only [IntWalk.i64_left]; rfl) | (simp only [IntWalk.i64_left, *]; done) | (simp only [IntWalk.i64_left, *]; rfl)
                    · have e14_ : X 14 = _ := hD 14 (by decide) rfl
                      have e25_ : X 25 = _ := hD 25 (by decide) rfl
                      refine tv rfl (by simp only [e14_, e25_]; rfl) ?_ (by exact h _ w7 rfl (Below.refl _ _))
                      simp only [e14_, e25_]; go_simp <;> first | rfl | (simp only [IntWalk.i64_left]; rfl) | (simp only [IntWalk.i64_left, *]; done) | (simp only [IntWalk.i64_left, *]; rfl)
                  case al => exact Each.nil
                  case st => exact Each.nil
                  case into => exact Each.nil
                  case fin =>
                    intro X16_ W16 hI
                    have hE : Keep [] W15 W16 := hI.keep
                    have e26_ : X16_ 26 = _ := hI.fact 26 (by decide) rfl rfl
                    have v3 := v3.below hE.nil
                    have v4 := v4.below hE.nil
                    have v6 := v6.below hE.nil
                    have v7 := v7.below hE.nil
                    have v8 := v8.below hE.nil
                    have hv := hv.below hE.nil
                    have v9 := v9.below hE.nil
                    have v10 := v10.below hE.nil
                    have v11 := v11.below hE.nil
                    have hB := hB.trans (hE.nil.mono hB.size)
                    simp only [e26_]
                    clear e26_ hI hE
                    go_wp2_with fail
                    have hBs := hB.size
                    go_roundw
                    case rel => first | exact ⟨k + 1, by omega, by simp, by repeat (first | exact hB | refine Below.alloc ?_ (by first | omega | (simp; try omega)) _ | refine Below.setCell ?_ (by first | omega | (simp; try omega)) _), v3, v4, v6, v7, v8, hv⟩ | ((repeat apply Exists.intro); refine ⟨⟨k + 1, by omega, by simp, by repeat (first | exact hB | refine Below.alloc ?_ (by first | omega | (simp; try omega)) _ | refine Below.setCell ?_ (by first | omega | (simp; try omega)) _), v3, v4, v6, v7, v8, hv⟩, rfl⟩)
                    case measure => simp [intOf]; omega
              ·
                skip
                cases bn
                ·
                  skip
                  cases bm
                  ·
                    skip
                    go_wp2_with fail
                    refine wp_region_dag (by kernel_rfl) ?_
                    intro W15 hk
                    have hs := hk
                    have v3 := v3.below hs
                    have v4 := v4.below hs
                    have v6 := v6.below hs
                    have v7 := v7.below hs
                    have v8 := v8.below hs
                    have hv := hv.below hs
                    have v9 := v9.below hs
                    have v10 := v10.below hs
                    have v11 := v11.below hs
                    have hB := hB.trans (hs.mono hB.size)
                    clear hs hk
                    refine dagV (fun _ => trivial) 27 ?hn (fun X => ⟨#[.agg #[.slice a0 len0 cap0, .slice a1 len1 cap1], .slice (some ad) len cap, .agg #[.int .u8 (e0 : Int), .int .u8 (e1 : Int), .int .u8 (e2 : Int)], .agg #[.int .u8 (g0 : Int), .int .u8 (g1 : Int), .int .u8 (g2 : Int)], .pointer (some ⟨b0, 0, none⟩), undef, .pointer (some ⟨b1, 0, none⟩), .pointer (some ⟨b2, 0, none⟩), u8, .bool true, .pointer (some ⟨b3, 0, none⟩), .pointer (some ⟨b4, 0, none⟩), .pointer (some ⟨b5, 0, none⟩), .pointer (some ⟨b6, 0, none⟩), .int .i64 r, .pointer (some ⟨b7, 0, none⟩), .bool true, .pointer (some ⟨b8, 0, none⟩), undef, .pointer (some ⟨b9, 0, none⟩), .pointer (some ⟨b10, 0, none⟩), .pointer (some ⟨b11, 0, none⟩), undef, undef, .bool true, X2_ 0, X2_ 1, X2_ 2, X2_ 3, X2_ 4, X2_ 5, X2_ 6, .agg #[.int .i64 p1, .int .i64 p2, .int .i64 p3, .int .i64 p4], X2_ 8, X2_ 9, X2_ 10, X2_ 11, X2_ 12, X2_ 13, X2_ 14, .agg #[.int .i64 q1, .int .i64 q2, .int .i64 q3, .int .i64 q4], .pointer (some ⟨b1, 0, none⟩), .int .u8 (e0 : Int), .int .i64 (e0 : Int), .int .i64 ((e0 : Int) % 13), .pointer (some ⟨b1, 1, none⟩), .int .u8 (e1 : Int), .int .i64 (e1 : Int), .int .i64 ((e1 : Int) % 13), .pointer (some ⟨b1, 2, none⟩), .int .u8 (e2 : Int), .int .i64 (e2 : Int), .int .i64 ((e2 : Int) % 13), .agg #[.int .i64 (h1 : Int), .int .i64 (h2 : Int), .int .i64 (h3 : Int)], X4_ 0, X4_ 1, X4_ 2, X4_ 3, X4_ 4, X4_ 5, X4_ 6, X4_ 7, X4_ 8, X4_ 9, X4_ 10, X4_ 11, X4_ 12, X4_ 13, X4_ 14, X4_ 15, X4_ 16, X4_ 17, X4_ 18, X4_ 19, X4_ 20, X4_ 21, X4_ 22, X4_ 23, X4_ 24, X4_ 25, X4_ 26, X4_ 27, X4_ 28, X4_ 29, X4_ 30, X4_ 31, X4_ 32, .agg #[.int .i64 d1, .int .i64 d2, .int .i64 d3], .pointer (some ⟨b3, 0, none⟩), .agg #[.int .i64 p1, .int .i64 p2, .int .i64 p3], .agg #[.int .i64 (h1 : Int), .int .i64 (h2 : Int), .int .i64 (h3 : Int)], .int .i64 r, .tuple #[.agg #[.int .i64 p1, .int .i64 p2, .int .i64 p3, .int .i64 pb], .bool true], .agg #[.int .i64 p1, .int .i64 p2, .int .i64 p3, .int .i64 p4], .int .i64 r, .tuple #[.agg #[.int .i64 p1, .int .i64 p2, .int .i64 p3, .int .i64 pb], .bool true], .agg #[.int .i64 p1, .int .i64 p2, .int .i64 p3, .int .i64 pb], .bool true, .bool true, .bool false, .bool false, .int .i64 r, .bool (decide (r < 0)), .bool (decide (r < 0)), X9_ 0, X9_ 1, X9_ 2, X9_ 3, X9_ 4, X9_ 5, X9_ 6, X9_ 7, X9_ 8, X9_ 9, X9_ 10, X9_ 11, X9_ 12, X9_ 13, X9_ 14, X9_ 15, X9_ 16, X9_ 17, X9_ 18, X9_ 19, X9_ 20, .agg #[.int .i64 k1, .int .i64 k2, .int .i64 k3], .pointer (some ⟨b3, 0, none⟩), .agg #[.int .i64 p1, .int .i64 p2, .int .i64 p3], .agg #[.int .i64 k1, .int .i64 k2, .int .i64 k3], .int .i64 r, .int .i64 r, .bool false, .slice (some ad) len cap, .slice (some ad) len cap, .int .i64 (len : Int), .int .i64 (len : Int), .slice (some ad) len cap, .slice (some ⟨g, 0, none⟩) 4 c, .int .i64 4, .int .i64 (k : Int), .bool true, .pointer (some ⟨g, k * 3, none⟩), .agg #[.int .i64 y1, .int .i64 y2, .int .i64 y3], X15_ 0, X15_ 1, .agg #[.int .i64 n1, .int .i64 n2, .int .i64 n3], X15_ 3, X15_ 4, .agg #[.int .i64 m1, .int .i64 m2, .int .i64 m3], X 0, X 1, X 2, X 3, X 4, X 5, X 6, X 7, X 8, X 9, X 10, X 11, X 12, X 13, X 14, X 15, X 16, X 17, X 18, X 19, X 20, X 21, X 22, X 23, X 24, X 25, X 26, u176, undef, undef, undef, undef, undef, undef, undef, undef, undef, undef, undef, undef, undef, undef, undef, undef, undef, undef, undef, undef, undef, undef, undef, undef, undef, undef, undef, undef, undef, undef, undef, undef, undef, undef, undef, undef, undef, undef, undef, undef, undef, undef, undef, undef, undef, undef, undef, undef, undef, undef, undef, undef, undef, undef, undef, undef, undef], []⟩) [(0, 0, 0), (0, 0, 0), (0, 0, 0), (0, 0, 0), (0, 0, 0), (0, 0, 0), (0, 0, 0), (0, 0, 0), (0, 0, 0), (0, 0, 0), (0, 0, 0), (0, 0, 0), (0, 0, 0), (0, 0, 0), (0, 0, 0), (0, 0, 0), (0, 0, 0), (0, 0, 0), (0, 0, 0), (0, 0, 0), (0, 0, 0), (0, 0, 0), (0, 0, 0), (0, 0, 0), (0, 0, 0), (0, 0, 0), (0, 0, 0)] (fun _ => []) [.val (.agg #[.int .i64 p1, .int .i64 p2, .int .i64 p3, .int .i64 p4]), .val (.agg #[.int .i64 y1, .int .i64 y2, .int .i64 y3]), .val (.int .i64 sv), .val (.bool true), .val (.bool true), .val (.agg #[.int .i64 n1, .int .i64 n2, .int .i64 n3]), .val (.bool false), .val (.bool false), .val (.bool false), .val undef, .val undef, .val undef, .val undef, .val (.bool false), .val (.bool false), .val (.agg #[.int .i64 m1, .int .i64 m2, .int .i64 m3]), .val (.bool false), .val (.bool false), .val undef, .val undef, .val undef, .val undef, .val undef, .val undef, .val undef, .val (.bool false), .val (.bool false)] [[], [], [0, 1], [2], [3], [4], [4, 5], [4, 6], [7], [8], [8], [8, 9, 10], [8, 11], [8, 12], [13], [14], [14, 15], [14, 16], [17], [17], [17, 18, 19], [17], [17], [17, 21, 22], [17, 20, 23], [14, 17, 24], [14, 25]] [0, 1, 2, 3, 4, 5, 6, 7, 8, 9, 10, 11, 12, 13, 14, 15, 16, 17, 18, 19, 20, 21, 22, 23, 24, 25, 26] [] [] [] (fun _ => 0) W15 (by kernel_rfl) (by kernel_rfl) (by kernel_rfl) (by kernel_rfl) (by kernel_rfl) ?dist ?olds ?op ?al ?st ?into ?fin (upd (upd (upd (upd (upd (upd (upd (upd (upd (upd (upd (upd (upd (upd (upd (upd (upd (upd (upd (upd (upd (upd (upd (upd (upd (upd (upd (fun _ => undef) 0 (u149)) 1 (u150)) 2 (u151)) 3 (u152)) 4 (u153)) 5 (u154)) 6 (u155)) 7 (u156)) 8 (u157)) 9 (u158)) 10 (u159)) 11 (u160)) 12 (u161)) 13 (u162)) 14 (u163)) 15 (u164)) 16 (u165)) 17 (u166)) 18 (u167)) 19 (u168)) 20 (u169)) 21 (u170)) 22 (u171)) 23 (u172)) 24 (u173)) 25 (u174)) 26 (u175)) _ _ (by kernel_rfl) (of_decide_eq_true (by kernel_rfl)) (of_decide_eq_true (by kernel_rfl))
                    case hn => rfl
                    case dist => intro i hi j hj; simp at hi hj; try omega
                    case olds => exact nofun
                    case op =>
                      repeat' first | exact Each.nil | refine Each.cons ?_ ?_
                      all_goals intro X w7 H hb hD h
                      · have hv := v3.below (show Keep [] _ _ from hb).nil
                        have c0_ := hv.at 0 rfl
                        have c1_ := hv.at 1 rfl
                        have c2_ := hv.at 2 rfl
                        have c3_ := hv.at 3 rfl
                        refine tv rfl (by rfl) ?_ (by exact h _ w7 rfl (Below.refl _ _))
                        go_simp <;> first | rfl | (simp only [IntWalk.i64_left]; rfl) | (simp only [IntWalk.i64_left, *]; done) | (simp only [IntWalk.i64_left, *]; rfl)
                      · have hv := v9.below (show Keep [] _ _ from hb).nil
                        have c0_ := hv.at 0 rfl
                        have c1_ := hv.at 1 rfl
                        have c2_ := hv.at 2 rfl
                        refine tv rfl (by rfl) ?_ (by exact h _ w7 rfl (Below.refl _ _))
                        go_simp <;> first | rfl | (simp only [IntWalk.i64_left]; rfl) | (simp only [IntWalk.i64_left, *]; done) | (simp only [IntWalk.i64_left, *]; rfl)
                      · have e0_ : X 0 = _ := hD 0 (by decide) rfl
                        have e1_ : X 1 = _ := hD 1 (by decide) rfl
                        refine wpOp_call (i := 2) (f := 33) (args := #[.agg #[.int .i64 p1, .int .i64 p2, .int .i64 p3, .int .i64 p4], .agg #[.int .i64 y1, .int .i64 y2, .int .i64 y3]]) 151 rfl rfl (by simp only [e0_, e1_]; rfl) (by simp only [e0_, e1_]; go_simp) ?_
                        refine (cS.out _).mono ?_
                        rintro e w8 ⟨rfl, hk⟩
                        exact ⟨_, rfl, h _ w8 rfl hk⟩
                      · have e2_ : X 2 = _ := hD 2 (by decide) rfl
                        have f_ := hle
                        refine tv rfl (by simp only [e2_]; rfl) ?_ (by exact h _ w7 rfl (Below.refl _ _))
                        simp only [e2_]; go_simp <;> first | rfl | (simp only [IntWalk.i64_left]; rfl) | (simp only [IntWalk.i64_left, *]; done) | (simp only [IntWalk.i64_left, *]; rfl)
                      · have e3_ : X 3 = _ := hD 3 (by decide) rfl
                        refine tv rfl (by simp only [e3_]; rfl) ?_ (by exact h _ w7 rfl (Below.refl _ _))
                        simp only [e3_]; go_simp <;> first | rfl | (simp only [IntWalk.i64_left]; rfl) | (simp only [IntWalk.i64_left, *]; done) | (simp only [IntWalk.i64_left, *]; rfl)
                      · have e4_ : X 4 = _ := hD 4 (by decide) rfl
                        have hv := v10.below (show Keep [] _ _ from hb).nil
                        have c0_ := hv.at 0 rfl
                        have c1_ := hv.at 1 rfl
                        have c2_ := hv.at 2 rfl
                        refine tv rfl (by simp only [e4_]; rfl) ?_ (by exact h _ w7 rfl (Below.refl _ _))
                        simp only [e4_]; go_simp <;> first | rfl | (simp only [IntWalk.i64_left]; rfl) | (simp only [IntWalk.i64_left, *]; done) | (simp only [IntWalk.i64_left, *]; rfl)
                      · have e4_ : X 4 = _ := hD 4 (by decide) rfl
                        have e5_ : X 5 = _ := hD 5 (by decide) rfl
                        refine wpOp_call (i := 6) (f := 13) (args := #[.agg #[.int .i64 n1, .int .i64 n2, .int .i64 n3]]) 155 rfl rfl (by simp only [e4_, e5_]; rfl) (by simp only [e4_, e5_]; go_simp) ?_
                        refine (cI.out _).mono ?_
                        rintro e w8 ⟨rfl, hk⟩
                        exact ⟨_, rfl, h _ w8 rfl hk⟩
                      · have e4_ : X 4 = _ := hD 4 (by decide) rfl
                        have e6_ : X 6 = _ := hD 6 (by decide) rfl
                        refine tv rfl (by simp only [e4_, e6_]; rfl) ?_ (by exact h _ w7 rfl (Below.refl _ _))
                        simp only [e4_, e6_]; go_simp <;> first | rfl | (simp only [IntWalk.i64_left]; rfl) | (simp only [IntWalk.i64_left, *]; done) | (simp only [IntWalk.i64_left, *]; rfl)
                      · have e7_ : X 7 = _ := hD 7 (by decide) rfl
                        refine tv rfl (by simp only [e7_]; rfl) ?_ (by exact h _ w7 rfl (Below.refl _ _))
                        simp only [e7_]; go_simp <;> first | rfl | (simp only [IntWalk.i64_left]; rfl) | (simp only [IntWalk.i64_left, *]; done) | (simp only [IntWalk.i64_left, *]; rfl)
                      · have e8_ : X 8 = _ := hD 8 (by decide) rfl
                        refine tu rfl (by simp only [e8_]; rfl) ?_
                        exact h _ w7 rfl (Below.refl _ _)
                      · have e8_ : X 8 = _ := hD 8 (by decide) rfl
                        refine tu rfl (by simp only [e8_]; rfl) ?_
                        exact h _ w7 rfl (Below.refl _ _)
                      · have e8_ : X 8 = _ := hD 8 (by decide) rfl
                        have e9_ : X 9 = _ := hD 9 (by decide) rfl
                        have e10_ : X 10 = _ := hD 10 (by decide) rfl
                        refine tu rfl (by simp only [e8_, e9_, e10_]; rfl) ?_
                        exact h _ w7 rfl (Below.refl _ _)
                      · have e8_ : X 8 = _ := hD 8 (by decide) rfl
                        have e11_ : X 11 = _ := hD 11 (by decide) rfl
                        refine tu rfl (by simp only [e8_, e11_]; rfl) ?_
                        exact h _ w7 rfl (Below.refl _ _)
                      · have e8_ : X 8 = _ := hD 8 (by decide) rfl
                        have e12_ : X 12 = _ := hD 12 (by decide) rfl
                        refine tv rfl (by simp only [e8_, e12_]; rfl) ?_ (by exact h _ w7 rfl (Below.refl _ _))
                        simp only [e8_, e12_]; go_simp <;> first | rfl | (simp only [IntWalk.i64_left]; rfl) | (simp only [IntWalk.i64_left, *]; done) | (simp only [IntWalk.i64_left, *]; rfl)
                      · have e13_ : X 13 = _ := hD 13 (by decide) rfl
                        refine tv rfl (by simp only [e13_]; rfl) ?_ (by exact h _ w7 rfl (Below.refl _ _))
                        simp only [e13_]; go_simp <;> first | rfl | (simp only [IntWalk.i64_left]; rfl) | (simp only [IntWalk.i64_left, *]; done) | (simp only [IntWalk.i64_left, *]; rfl)
                      · have e14_ : X 14 = _ := hD 14 (by decide) rfl
                        have hv := v11.below (show Keep [] _ _ from hb).nil
                        have c0_ := hv.at 0 rfl
                        have c1_ := hv.at 1 rfl
                        have c2_ := hv.at 2 rfl
                        refine tv rfl (by simp only [e14_]; rfl) ?_ (by exact h _ w7 rfl (Below.refl _ _))
                        simp only [e14_]; go_simp <;> first | rfl | (simp only [IntWalk.i64_left]; rfl) | (simp only [IntWalk.i64_left, *]; done) | (simp only [IntWalk.i64_left, *]; rfl)
                      · have e14_ : X 14 = _ := hD 14 (by decide) rfl
                        have e15_ : X 15 = _ := hD 15 (by decide) rfl
                        refine wpOp_call (i := 16) (f := 13) (args := #[.agg #[.int .i64 m1, .int .i64 m2, .int .i64 m3]]) 165 rfl rfl (by simp only [e14_, e15_]; rfl) (by simp only [e14_, e15_]; go_simp) ?_
                        refine (cJ.out _).mono ?_
                        rintro e w8 ⟨rfl, hk⟩
                        exact ⟨_, rfl, h _ w8 rfl hk⟩
                      · have e14_ : X 14 = _ := hD 14 (by decide) rfl
                        have e16_ : X 16 = _ := hD 16 (by decide) rfl
                        refine tv rfl (by simp only [e14_, e16_]; rfl) ?_ (by exact h _ w7 rfl (Below.refl _ _))
                        simp only [e14_, e16_]; go_simp <;> first | rfl | (simp only [IntWalk.i64_left]; rfl) | (simp only [IntWalk.i64_left, *]; done) | (simp only [IntWalk.i64_left, *]; rfl)
                      · have e17_ : X 17 = _ := hD 17 (by decide) rfl
                        refine tu rfl (by simp only [e17_]; rfl) ?_
                        exact h _ w7 rfl (Below.refl _ _)
                      · have e17_ : X 17 = _ := hD 17 (by decide) rfl
                        refine tu rfl (by simp only [e17_]; rfl) ?_
                        exact h _ w7 rfl (Below.refl _ _)
                      · have e17_ : X 17 = _ := hD 17 (by decide) rfl
                        have e18_ : X 18 = _ := hD 18 (by decide) rfl
                        have e19_ : X 19 = _ := hD 19 (by decide) rfl
                        refine tu rfl (by simp only [e17_, e18_, e19_]; rfl) ?_
                        exact h _ w7 rfl (Below.refl _ _)
                      · have e17_ : X 17 = _ := hD 17 (by decide) rfl
                        refine tu rfl (by simp only [e17_]; rfl) ?_
                        exact h _ w7 rfl (Below.refl _ _)
                      · have e17_ : X 17 = _ := hD 17 (by decide) rfl
                        refine tu rfl (by simp only [e17_]; rfl) ?_
                        exact h _ w7 rfl (Below.refl _ _)
                      · have e17_ : X 17 = _ := hD 17 (by decide) rfl
                        have e21_ : X 21 = _ := hD 21 (by decide) rfl
                        have e22_ : X 22 = _ := hD 22 (by decide) rfl
                        refine tu rfl (by simp only [e17_, e21_, e22_]; rfl) ?_
                        exact h _ w7 rfl (Below.refl _ _)
                      · have e17_ : X 17 = _ := hD 17 (by decide) rfl
                        have e20_ : X 20 = _ := hD 20 (by decide) rfl
                        have e23_ : X 23 = _ := hD 23 (by decide) rfl
                        refine tu rfl (by simp only [e17_, e20_, e23_]; rfl) ?_
                        exact h _ w7 rfl (Below.refl _ _)
                      · have e14_ : X 14 = _ := hD 14 (by decide) rfl
                        have e17_ : X 17 = _ := hD 17 (by decide) rfl
                        have e24_ : X 24 = _ := hD 24 (by decide) rfl
                        refine tv rfl (by simp only [e14_, e17_, e24_]; rfl) ?_ (by exact h _ w7 rfl (Below.refl _ _))
                        simp only [e14_, e17_, e24_]; go_simp <;> first | rfl | (simp only [IntWalk.i64_left]; rfl) | (simp only [IntWalk.i64_left, *]; done) | (simp only [IntWalk.i64_left, *]; rfl)
                      · have e14_ : X 14 = _ := hD 14 (by decide) rfl
                        have e25_ : X 25 = _ := hD 25 (by decide) rfl
                        refine tv rfl (by simp only [e14_, e25_]; rfl) ?_ (by exact h _ w7 rfl (Below.refl _ _))
                        simp only [e14_, e25_]; go_simp <;> first | rfl | (simp only [IntWalk.i64_left]; rfl) | (simp only [IntWalk.i64_left, *]; done) | (simp only [IntWalk.i64_left, *]; rfl)
                    case al => exact Each.nil
                    case st => exact Each.nil
                    case into => exact Each.nil
                    case fin =>
                      intro X16_ W16 hI
                      have hE : Keep [] W15 W16 := hI.keep
                      have e26_ : X16_ 26 = _ := hI.fact 26 (by decide) rfl rfl
                      have v3 := v3.below hE.nil
                      have v4 := v4.below hE.nil
                      have v6 := v6.below hE.nil
                      have v7 := v7.below hE.nil
                      have v8 := v8.below hE.nil
                      have hv := hv.below hE.nil
                      have v9 := v9.below hE.nil
                      have v10 := v10.below hE.nil
                      have v11 := v11.below hE.nil
                      have hB := hB.trans (hE.nil.mono hB.size)
                      simp only [e26_]
                      clear e26_ hI hE
                      go_wp2_with fail
                      have hBs := hB.size
                      go_roundw
                      case rel => first | exact ⟨k + 1, by omega, by simp, by repeat (first | exact hB | refine Below.alloc ?_ (by first | omega | (simp; try omega)) _ | refine Below.setCell ?_ (by first | omega | (simp; try omega)) _), v3, v4, v6, v7, v8, hv⟩ | ((repeat apply Exists.intro); refine ⟨⟨k + 1, by omega, by simp, by repeat (first | exact hB | refine Below.alloc ?_ (by first | omega | (simp; try omega)) _ | refine Below.setCell ?_ (by first | omega | (simp; try omega)) _), v3, v4, v6, v7, v8, hv⟩, rfl⟩)
                      case measure => simp [intOf]; omega
                  ·
                    skip
                    go_wp2_with fail
                    refine wp_region_dag (by kernel_rfl) ?_
                    intro W15 hk
                    have hs := hk
                    have v3 := v3.below hs
                    have v4 := v4.below hs
                    have v6 := v6.below hs
                    have v7 := v7.below hs
                    have v8 := v8.below hs
                    have hv := hv.below hs
                    have v9 := v9.below hs
                    have v10 := v10.below hs
                    have v11 := v11.below hs
                    have hB := hB.trans (hs.mono hB.size)
                    clear hs hk
                    refine dagV (fun _ => trivial) 27 ?hn (fun X => ⟨#[.agg #[.slice a0 len0 cap0, .slice a1 len1 cap1], .slice (some ad) len cap, .agg #[.int .u8 (e0 : Int), .int .u8 (e1 : Int), .int .u8 (e2 : Int)], .agg #[.int .u8 (g0 : Int), .int .u8 (g1 : Int), .int .u8 (g2 : Int)], .pointer (some ⟨b0, 0, none⟩), undef, .pointer (some ⟨b1, 0, none⟩), .pointer (some ⟨b2, 0, none⟩), u8, .bool true, .pointer (some ⟨b3, 0, none⟩), .pointer (some ⟨b4, 0, none⟩), .pointer (some ⟨b5, 0, none⟩), .pointer (some ⟨b6, 0, none⟩), .int .i64 r, .pointer (some ⟨b7, 0, none⟩), .bool true, .pointer (some ⟨b8, 0, none⟩), undef, .pointer (some ⟨b9, 0, none⟩), .pointer (some ⟨b10, 0, none⟩), .pointer (some ⟨b11, 0, none⟩), undef, undef, .bool true, X2_ 0, X2_ 1, X2_ 2, X2_ 3, X2_ 4, X2_ 5, X2_ 6, .agg #[.int .i64 p1, .int .i64 p2, .int .i64 p3, .int .i64 p4], X2_ 8, X2_ 9, X2_ 10, X2_ 11, X2_ 12, X2_ 13, X2_ 14, .agg #[.int .i64 q1, .int .i64 q2, .int .i64 q3, .int .i64 q4], .pointer (some ⟨b1, 0, none⟩), .int .u8 (e0 : Int), .int .i64 (e0 : Int), .int .i64 ((e0 : Int) % 13), .pointer (some ⟨b1, 1, none⟩), .int .u8 (e1 : Int), .int .i64 (e1 : Int), .int .i64 ((e1 : Int) % 13), .pointer (some ⟨b1, 2, none⟩), .int .u8 (e2 : Int), .int .i64 (e2 : Int), .int .i64 ((e2 : Int) % 13), .agg #[.int .i64 (h1 : Int), .int .i64 (h2 : Int), .int .i64 (h3 : Int)], X4_ 0, X4_ 1, X4_ 2, X4_ 3, X4_ 4, X4_ 5, X4_ 6, X4_ 7, X4_ 8, X4_ 9, X4_ 10, X4_ 11, X4_ 12, X4_ 13, X4_ 14, X4_ 15, X4_ 16, X4_ 17, X4_ 18, X4_ 19, X4_ 20, X4_ 21, X4_ 22, X4_ 23, X4_ 24, X4_ 25, X4_ 26, X4_ 27, X4_ 28, X4_ 29, X4_ 30, X4_ 31, X4_ 32, .agg #[.int .i64 d1, .int .i64 d2, .int .i64 d3], .pointer (some ⟨b3, 0, none⟩), .agg #[.int .i64 p1, .int .i64 p2, .int .i64 p3], .agg #[.int .i64 (h1 : Int), .int .i64 (h2 : Int), .int .i64 (h3 : Int)], .int .i64 r, .tuple #[.agg #[.int .i64 p1, .int .i64 p2, .int .i64 p3, .int .i64 pb], .bool true], .agg #[.int .i64 p1, .int .i64 p2, .int .i64 p3, .int .i64 p4], .int .i64 r, .tuple #[.agg #[.int .i64 p1, .int .i64 p2, .int .i64 p3, .int .i64 pb], .bool true], .agg #[.int .i64 p1, .int .i64 p2, .int .i64 p3, .int .i64 pb], .bool true, .bool true, .bool false, .bool false, .int .i64 r, .bool (decide (r < 0)), .bool (decide (r < 0)), X9_ 0, X9_ 1, X9_ 2, X9_ 3, X9_ 4, X9_ 5, X9_ 6, X9_ 7, X9_ 8, X9_ 9, X9_ 10, X9_ 11, X9_ 12, X9_ 13, X9_ 14, X9_ 15, X9_ 16, X9_ 17, X9_ 18, X9_ 19, X9_ 20, .agg #[.int .i64 k1, .int .i64 k2, .int .i64 k3], .pointer (some ⟨b3, 0, none⟩), .agg #[.int .i64 p1, .int .i64 p2, .int .i64 p3], .agg #[.int .i64 k1, .int .i64 k2, .int .i64 k3], .int .i64 r, .int .i64 r, .bool false, .slice (some ad) len cap, .slice (some ad) len cap, .int .i64 (len : Int), .int .i64 (len : Int), .slice (some ad) len cap, .slice (some ⟨g, 0, none⟩) 4 c, .int .i64 4, .int .i64 (k : Int), .bool true, .pointer (some ⟨g, k * 3, none⟩), .agg #[.int .i64 y1, .int .i64 y2, .int .i64 y3], X15_ 0, X15_ 1, .agg #[.int .i64 n1, .int .i64 n2, .int .i64 n3], X15_ 3, X15_ 4, .agg #[.int .i64 m1, .int .i64 m2, .int .i64 m3], X 0, X 1, X 2, X 3, X 4, X 5, X 6, X 7, X 8, X 9, X 10, X 11, X 12, X 13, X 14, X 15, X 16, X 17, X 18, X 19, X 20, X 21, X 22, X 23, X 24, X 25, X 26, u176, undef, undef, undef, undef, undef, undef, undef, undef, undef, undef, undef, undef, undef, undef, undef, undef, undef, undef, undef, undef, undef, undef, undef, undef, undef, undef, undef, undef, undef, undef, undef, undef, undef, undef, undef, undef, undef, undef, undef, undef, undef, undef, undef, undef, undef, undef, undef, undef, undef, undef, undef, undef, undef, undef, undef, undef, undef], []⟩) [(0, 0, 0), (0, 0, 0), (0, 0, 0), (0, 0, 0), (0, 0, 0), (0, 0, 0), (0, 0, 0), (0, 0, 0), (0, 0, 0), (0, 0, 0), (0, 0, 0), (0, 0, 0), (0, 0, 0), (0, 0, 0), (0, 0, 0), (0, 0, 0), (0, 0, 0), (0, 0, 0), (0, 0, 0), (0, 0, 0), (0, 0, 0), (0, 0, 0), (0, 0, 0), (0, 0, 0), (0, 0, 0), (0, 0, 0), (0, 0, 0)] (fun _ => []) [.val (.agg #[.int .i64 p1, .int .i64 p2, .int .i64 p3, .int .i64 p4]), .val (.agg #[.int .i64 y1, .int .i64 y2, .int .i64 y3]), .val (.int .i64 sv), .val (.bool true), .val (.bool true), .val (.agg #[.int .i64 n1, .int .i64 n2, .int .i64 n3]), .val (.bool false), .val (.bool false), .val (.bool false), .val undef, .val undef, .val undef, .val undef, .val (.bool false), .val (.bool false), .val (.agg #[.int .i64 m1, .int .i64 m2, .int .i64 m3]), .val (.bool true), .val (.bool true), .val (.agg #[.int .i64 p1, .int .i64 p2, .int .i64 p3, .int .i64 p4]), .val (.agg #[.int .i64 y1, .int .i64 y2, .int .i64 y3]), .val (.int .i64 sv), .val (.agg #[.int .i64 p1, .int .i64 p2, .int .i64 p3, .int .i64 pb]), .val (.agg #[.int .i64 m1, .int .i64 m2, .int .i64 m3]), .val (.int .i64 sv), .val (.bool false), .val (.bool false), .val (.bool false)] [[], [], [0, 1], [2], [3], [4], [4, 5], [4, 6], [7], [8], [8], [8, 9, 10], [8, 11], [8, 12], [13], [14], [14, 15], [14, 16], [17], [17], [17, 18, 19], [17], [17], [17, 21, 22], [17, 20, 23], [14, 17, 24], [14, 25]] [0, 1, 2, 3, 4, 5, 6, 7, 8, 9, 10, 11, 12, 13, 14, 15, 16, 17, 18, 19, 20, 21, 22, 23, 24, 25, 26] [] [] [] (fun _ => 0) W15 (by kernel_rfl) (by kernel_rfl) (by kernel_rfl) (by kernel_rfl) (by kernel_rfl) ?dist ?olds ?op ?al ?st ?into ?fin (upd (upd (upd (upd (upd (upd (upd (upd (upd (upd (upd (upd (upd (upd (upd (upd (upd (upd (upd (upd (upd (upd (upd (upd (upd (upd (upd (fun _ => undef) 0 (u149)) 1 (u150)) 2 (u151)) 3 (u152)) 4 (u153)) 5 (u154)) 6 (u155)) 7 (u156)) 8 (u157)) 9 (u158)) 10 (u159)) 11 (u160)) 12 (u161)) 13 (u162)) 14 (u163)) 15 (u164)) 16 (u165)) 17 (u166)) 18 (u167)) 19 (u168)) 20 (u169)) 21 (u170)) 22 (u171)) 23 (u172)) 24 (u173)) 25 (u174)) 26 (u175)) _ _ (by kernel_rfl) (of_decide_eq_true (by kernel_rfl)) (of_decide_eq_true (by kernel_rfl))
                    case hn => rfl
                    case dist => intro i hi j hj; simp at hi hj; try omega
                    case olds => exact nofun
                    case op =>
                      repeat' first | exact Each.nil | refine Each.cons ?_ ?_
                      all_goals intro X w7 H hb hD h
                      · have hv := v3.below (show Keep [] _ _ from hb).nil
                        have c0_ := hv.at 0 rfl
                        have c1_ := hv.at 1 rfl
                        have c2_ := hv.at 2 rfl
                        have c3_ := hv.at 3 rfl
                        refine tv rfl (by rfl) ?_ (by exact h _ w7 rfl (Below.refl _ _))
                        go_simp <;> first | rfl | (simp only [IntWalk.i64_left]; rfl) | (simp only [IntWalk.i64_left, *]; done) | (simp only [IntWalk.i64_left, *]; rfl)
                      · have hv := v9.below (show Keep [] _ _ from hb).nil
                        have c0_ := hv.at 0 rfl
                        have c1_ := hv.at 1 rfl
                        have c2_ := hv.at 2 rfl
                        refine tv rfl (by rfl) ?_ (by exact h _ w7 rfl (Below.refl _ _))
                        go_simp <;> first | rfl | (simp only [IntWalk.i64_left]; rfl) | (simp only [IntWalk.i64_left, *]; done) | (simp only [IntWalk.i64_left, *]; rfl)
                      · have e0_ : X 0 = _ := hD 0 (by decide) rfl
                        have e1_ : X 1 = _ := hD 1 (by decide) rfl
                        refine wpOp_call (i := 2) (f := 33) (args := #[.agg #[.int .i64 p1, .int .i64 p2, .int .i64 p3, .int .i64 p4], .agg #[.int .i64 y1, .int .i64 y2, .int .i64 y3]]) 151 rfl rfl (by simp only [e0_, e1_]; rfl) (by simp only [e0_, e1_]; go_simp) ?_
                        refine (cS.out _).mono ?_
                        rintro e w8 ⟨rfl, hk⟩
                        exact ⟨_, rfl, h _ w8 rfl hk⟩
                      · have e2_ : X 2 = _ := hD 2 (by decide) rfl
                        have f_ := hle
                        refine tv rfl (by simp only [e2_]; rfl) ?_ (by exact h _ w7 rfl (Below.refl _ _))
                        simp only [e2_]; go_simp <;> first | rfl | (simp only [IntWalk.i64_left]; rfl) | (simp only [IntWalk.i64_left, *]; done) | (simp only [IntWalk.i64_left, *]; rfl)
                      · have e3_ : X 3 = _ := hD 3 (by decide) rfl
                        refine tv rfl (by simp only [e3_]; rfl) ?_ (by exact h _ w7 rfl (Below.refl _ _))
                        simp only [e3_]; go_simp <;> first | rfl | (simp only [IntWalk.i64_left]; rfl) | (simp only [IntWalk.i64_left, *]; done) | (simp only [IntWalk.i64_left, *]; rfl)
                      · have e4_ : X 4 = _ := hD 4 (by decide) rfl
                        have hv := v10.below (show Keep [] _ _ from hb).nil
                        have c0_ := hv.at 0 rfl
                        have c1_ := hv.at 1 rfl
                        have c2_ := hv.at 2 rfl
                        refine tv rfl (by simp only [e4_]; rfl) ?_ (by exact h _ w7 rfl (Below.refl _ _))
                        simp only [e4_]; go_simp <;> first | rfl | (simp only [IntWalk.i64_left]; rfl) | (simp only [IntWalk.i64_left, *]; done) | (simp only [IntWalk.i64_left, *]; rfl)
                      · have e4_ : X 4 = _ := hD 4 (by decide) rfl
                        have e5_ : X 5 = _ := hD 5 (by decide) rfl
                        refine wpOp_call (i := 6) (f := 13) (args := #[.agg #[.int .i64 n1, .int .i64 n2, .int .i64 n3]]) 155 rfl rfl (by simp only [e4_, e5_]; rfl) (by simp only [e4_, e5_]; go_simp) ?_
                        refine (cI.out _).mono ?_
                        rintro e w8 ⟨rfl, hk⟩
                        exact ⟨_, rfl, h _ w8 rfl hk⟩
                      · have e4_ : X 4 = _ := hD 4 (by decide) rfl
                        have e6_ : X 6 = _ := hD 6 (by decide) rfl
                        refine tv rfl (by simp only [e4_, e6_]; rfl) ?_ (by exact h _ w7 rfl (Below.refl _ _))
                        simp only [e4_, e6_]; go_simp <;> first | rfl | (simp only [IntWalk.i64_left]; rfl) | (simp only [IntWalk.i64_left, *]; done) | (simp only [IntWalk.i64_left, *]; rfl)
                      · have e7_ : X 7 = _ := hD 7 (by decide) rfl
                        refine tv rfl (by simp only [e7_]; rfl) ?_ (by exact h _ w7 rfl (Below.refl _ _))
                        simp only [e7_]; go_simp <;> first | rfl | (simp only [IntWalk.i64_left]; rfl) | (simp only [IntWalk.i64_left, *]; done) | (simp only [IntWalk.i64_left, *]; rfl)
                      · have e8_ : X 8 = _ := hD 8 (by decide) rfl
                        refine tu rfl (by simp only [e8_]; rfl) ?_
                        exact h _ w7 rfl (Below.refl _ _)
                      · have e8_ : X 8 = _ := hD 8 (by decide) rfl
                        refine tu rfl (by simp only [e8_]; rfl) ?_
                        exact h _ w7 rfl (Below.refl _ _)
                      · have e8_ : X 8 = _ := hD 8 (by decide) rfl
                        have e9_ : X 9 = _ := hD 9 (by decide) rfl
                        have e10_ : X 10 = _ := hD 10 (by decide) rfl
                        refine tu rfl (by simp only [e8_, e9_, e10_]; rfl) ?_
                        exact h _ w7 rfl (Below.refl _ _)
                      · have e8_ : X 8 = _ := hD 8 (by decide) rfl
                        have e11_ : X 11 = _ := hD 11 (by decide) rfl
                        refine tu rfl (by simp only [e8_, e11_]; rfl) ?_
                        exact h _ w7 rfl (Below.refl _ _)
                      · have e8_ : X 8 = _ := hD 8 (by decide) rfl
                        have e12_ : X 12 = _ := hD 12 (by decide) rfl
                        refine tv rfl (by simp only [e8_, e12_]; rfl) ?_ (by exact h _ w7 rfl (Below.refl _ _))
                        simp only [e8_, e12_]; go_simp <;> first | rfl | (simp only [IntWalk.i64_left]; rfl) | (simp only [IntWalk.i64_left, *]; done) | (simp only [IntWalk.i64_left, *]; rfl)
                      · have e13_ : X 13 = _ := hD 13 (by decide) rfl
                        refine tv rfl (by simp only [e13_]; rfl) ?_ (by exact h _ w7 rfl (Below.refl _ _))
                        simp only [e13_]; go_simp <;> first | rfl | (simp only [IntWalk.i64_left]; rfl) | (simp only [IntWalk.i64_left, *]; done) | (simp only [IntWalk.i64_left, *]; rfl)
                      · have e14_ : X 14 = _ := hD 14 (by decide) rfl
                        have hv := v11.below (show Keep [] _ _ from hb).nil
                        have c0_ := hv.at 0 rfl
                        have c1_ := hv.at 1 rfl
                        have c2_ := hv.at 2 rfl
                        refine tv rfl (by simp only [e14_]; rfl) ?_ (by exact h _ w7 rfl (Below.refl _ _))
                        simp only [e14_]; go_simp <;> first | rfl | (simp only [IntWalk.i64_left]; rfl) | (simp only [IntWalk.i64_left, *]; done) | (simp only [IntWalk.i64_left, *]; rfl)
                      · have e14_ : X 14 = _ := hD 14 (by decide) rfl
                        have e15_ : X 15 = _ := hD 15 (by decide) rfl
                        refine wpOp_call (i := 16) (f := 13) (args := #[.agg #[.int .i64 m1, .int .i64 m2, .int .i64 m3]]) 165 rfl rfl (by simp only [e14_, e15_]; rfl) (by simp only [e14_, e15_]; go_simp) ?_
                        refine (cJ.out _).mono ?_
                        rintro e w8 ⟨rfl, hk⟩
                        exact ⟨_, rfl, h _ w8 rfl hk⟩
                      · have e14_ : X 14 = _ := hD 14 (by decide) rfl
                        have e16_ : X 16 = _ := hD 16 (by decide) rfl
                        refine tv rfl (by simp only [e14_, e16_]; rfl) ?_ (by exact h _ w7 rfl (Below.refl _ _))
                        simp only [e14_, e16_]; go_simp <;> first | rfl | (simp only [IntWalk.i64_left]; rfl) | (simp only [IntWalk.i64_left, *]; done) | (simp only [IntWalk.i64_left, *]; rfl)
                      · have e17_ : X 17 = _ := hD 17 (by decide) rfl
                        have hv := v3.below (show Keep [] _ _ from hb).nil
                        have c0_ := hv.at 0 rfl
                        have c1_ := hv.at 1 rfl
                        have c2_ := hv.at 2 rfl
                        have c3_ := hv.at 3 rfl
                        refine tv rfl (by simp only [e17_]; rfl) ?_ (by exact h _ w7 rfl (Below.refl _ _))
                        simp only [e17_]; go_simp <;> first | rfl | (simp only [IntWalk.i64_left]; rfl) | (simp only [IntWalk.i64_left, *]; done) | (simp only [IntWalk.i64_left, *]; rfl)
                      · have e17_ : X 17 = _ := hD 17 (by decide) rfl
                        have hv := v9.below (show Keep [] _ _ from hb).nil
                        have c0_ := hv.at 0 rfl
                        have c1_ := hv.at 1 rfl
                        have c2_ := hv.at 2 rfl
                        refine tv rfl (by simp only [e17_]; rfl) ?_ (by exact h _ w7 rfl (Below.refl _ _))
                        simp only [e17_]; go_simp <;> first | rfl | (simp only [IntWalk.i64_left]; rfl) | (simp only [IntWalk.i64_left, *]; done) | (simp only [IntWalk.i64_left, *]; rfl)
                      · have e17_ : X 17 = _ := hD 17 (by decide) rfl
                        have e18_ : X 18 = _ := hD 18 (by decide) rfl
                        have e19_ : X 19 = _ := hD 19 (by decide) rfl
                        refine wpOp_call (i := 20) (f := 33) (args := #[.agg #[.int .i64 p1, .int .i64 p2, .int .i64 p3, .int .i64 p4], .agg #[.int .i64 y1, .int .i64 y2, .int .i64 y3]]) 169 rfl rfl (by simp only [e17_, e18_, e19_]; rfl) (by simp only [e17_, e18_, e19_]; go_simp) ?_
                        refine (cS.out _).mono ?_
                        rintro e w8 ⟨rfl, hk⟩
                        exact ⟨_, rfl, h _ w8 rfl hk⟩
                      · have e17_ : X 17 = _ := hD 17 (by decide) rfl
                        have hv := v7.below (show Keep [] _ _ from hb).nil
                        have c0_ := hv.at 0 rfl
                        have c1_ := hv.at 1 rfl
                        have c2_ := hv.at 2 rfl
                        have c3_ := hv.at 3 rfl
                        refine tv rfl (by simp only [e17_]; rfl) ?_ (by exact h _ w7 rfl (Below.refl _ _))
                        simp only [e17_]; go_simp <;> first | rfl | (simp only [IntWalk.i64_left]; rfl) | (simp only [IntWalk.i64_left, *]; done) | (simp only [IntWalk.i64_left, *]; rfl)
                      · have e17_ : X 17 = _ := hD 17 (by decide) rfl
                        have hv := v11.below (show Keep [] _ _ from hb).nil
                        have c0_ := hv.at 0 rfl
                        have c1_ := hv.at 1 rfl
                        have c2_ := hv.at 2 rfl
                        refine tv rfl (by simp only [e17_]; rfl) ?_ (by exact h _ w7 rfl (Below.refl _ _))
                        simp only [e17_]; go_simp <;> first | rfl | (simp only [IntWalk.i64_left]; rfl) | (simp only [IntWalk.i64_left, *]; done) | (simp only [IntWalk.i64_left, *]; rfl)
                      · have e17_ : X 17 = _ := hD 17 (by decide) rfl
                        have e21_ : X 21 = _ := hD 21 (by decide) rfl
                        have e22_ : X 22 = _ := hD 22 (by decide) rfl
                        refine wpOp_call (i := 23) (f := 33) (args := #[.agg #[.int .i64 p1, .int .i64 p2, .int .i64 p3, .int .i64 pb], .agg #[.int .i64 m1, .int .i64 m2, .int .i64 m3]]) 172 rfl rfl (by simp only [e17_, e21_, e22_]; rfl) (by simp only [e17_, e21_, e22_]; go_simp) ?_
                        refine (cU.out (by first | rfl | trivial) _).mono ?_
                        rintro e w8 ⟨rfl, hk⟩
                        exact ⟨_, rfl, h _ w8 rfl hk⟩
                      · have e17_ : X 17 = _ := hD 17 (by decide) rfl
                        have e20_ : X 20 = _ := hD 20 (by decide) rfl
                        have e23_ : X 23 = _ := hD 23 (by decide) rfl
                        refine tv rfl (by simp only [e17_, e20_, e23_]; rfl) ?_ (by exact h _ w7 rfl (Below.refl _ _))
                        simp only [e17_, e20_, e23_]; go_simp <;> first | rfl | (simp only [IntWalk.i64_left]; rfl) | (simp only [IntWalk.i64_left, *]; done) | (simp only [IntWalk.i64_left, *]; rfl)
                      · have e14_ : X 14 = _ := hD 14 (by decide) rfl
                        have e17_ : X 17 = _ := hD 17 (by decide) rfl
                        have e24_ : X 24 = _ := hD 24 (by decide) rfl
                        refine tv rfl (by simp only [e14_, e17_, e24_]; rfl) ?_ (by exact h _ w7 rfl (Below.refl _ _))
                        simp only [e14_, e17_, e24_]; go_simp <;> first | rfl | (simp only [IntWalk.i64_left]; rfl) | (simp only [IntWalk.i64_left, *]; done) | (simp only [IntWalk.i64_left, *]; rfl)
                      · have e14_ : X 14 = _ := hD 14 (by decide) rfl
                        have e25_ : X 25 = _ := hD 25 (by decide) rfl
                        refine tv rfl (by simp only [e14_, e25_]; rfl) ?_ (by exact h _ w7 rfl (Below.refl _ _))
                        simp only [e14_, e25_]; go_simp <;> first | rfl | (simp only [IntWalk.i64_left]; rfl) | (simp only [IntWalk.i64_left, *]; done) | (simp only [IntWalk.i64_left, *]; rfl)
                    case al => exact Each.nil
                    case st => exact Each.nil
                    case into => exact Each.nil
                    case fin =>
                      intro X16_ W16 hI
                      have hE : Keep [] W15 W16 := hI.keep
                      have e26_ : X16_ 26 = _ := hI.fact 26 (by decide) rfl rfl
                      have v3 := v3.below hE.nil
                      have v4 := v4.below hE.nil
                      have v6 := v6.below hE.nil
                      have v7 := v7.below hE.nil
                      have v8 := v8.below hE.nil
                      have hv := hv.below hE.nil
                      have v9 := v9.below hE.nil
                      have v10 := v10.below hE.nil
                      have v11 := v11.below hE.nil
                      have hB := hB.trans (hE.nil.mono hB.size)
                      simp only [e26_]
                      clear e26_ hI hE
                      go_wp2_with fail
                      have hBs := hB.size
                      go_roundw
                      case rel => first | exact ⟨k + 1, by omega, by simp, by repeat (first | exact hB | refine Below.alloc ?_ (by first | omega | (simp; try omega)) _ | refine Below.setCell ?_ (by first | omega | (simp; try omega)) _), v3, v4, v6, v7, v8, hv⟩ | ((repeat apply Exists.intro); refine ⟨⟨k + 1, by omega, by simp, by repeat (first | exact hB | refine Below.alloc ?_ (by first | omega | (simp; try omega)) _ | refine Below.setCell ?_ (by first | omega | (simp; try omega)) _), v3, v4, v6, v7, v8, hv⟩, rfl⟩)
                      case measure => simp [intOf]; omega
                ·
                  skip
                  cases bm
                  ·
                    skip
                    go_wp2_with fail
                    refine wp_region_dag (by kernel_rfl) ?_
                    intro W15 hk
                    have hs := hk
                    have v3 := v3.below hs
                    have v4 := v4.below hs
                    have v6 := v6.below hs
                    have v7 := v7.below hs
                    have v8 := v8.below hs
                    have hv := hv.below hs
                    have v9 := v9.below hs
                    have v10 := v10.below hs
                    have v11 := v11.below hs
                    have hB := hB.trans (hs.mono hB.size)
                    clear hs hk
                    refine dagV (fun _ => trivial) 27 ?hn (fun X => ⟨#[.agg #[.slice a0 len0 cap0, .slice a1 len1 cap1], .slice (some ad) len cap, .agg #[.int .u8 (e0 : Int), .int .u8 (e1 : Int), .int .u8 (e2 : Int)], .agg #[.int .u8 (g0 : Int), .int .u8 (g1 : Int), .int .u8 (g2 : Int)], .pointer (some ⟨b0, 0, none⟩), undef, .pointer (some ⟨b1, 0, none⟩), .pointer (some ⟨b2, 0, none⟩), u8, .bool true, .pointer (some ⟨b3, 0, none⟩), .pointer (some ⟨b4, 0, none⟩), .pointer (some ⟨b5, 0, none⟩), .pointer (some ⟨b6, 0, none⟩), .int .i64 r, .pointer (some ⟨b7, 0, none⟩), .bool true, .pointer (some ⟨b8, 0, none⟩), undef, .pointer (some ⟨b9, 0, none⟩), .pointer (some ⟨b10, 0, none⟩), .pointer (some ⟨b11, 0, none⟩), undef, undef, .bool true, X2_ 0, X2_ 1, X2_ 2, X2_ 3, X2_ 4, X2_ 5, X2_ 6, .agg #[.int .i64 p1, .int .i64 p2, .int .i64 p3, .int .i64 p4], X2_ 8, X2_ 9, X2_ 10, X2_ 11, X2_ 12, X2_ 13, X2_ 14, .agg #[.int .i64 q1, .int .i64 q2, .int .i64 q3, .int .i64 q4], .pointer (some ⟨b1, 0, none⟩), .int .u8 (e0 : Int), .int .i64 (e0 : Int), .int .i64 ((e0 : Int) % 13), .pointer (some ⟨b1, 1, none⟩), .int .u8 (e1 : Int), .int .i64 (e1 : Int), .int .i64 ((e1 : Int) % 13), .pointer (some ⟨b1, 2, none⟩), .int .u8 (e2 : Int), .int .i64 (e2 : Int), .int .i64 ((e2 : Int) % 13), .agg #[.int .i64 (h1 : Int), .int .i64 (h2 : Int), .int .i64 (h3 : Int)], X4_ 0, X4_ 1, X4_ 2, X4_ 3, X4_ 4, X4_ 5, X4_ 6, X4_ 7, X4_ 8, X4_ 9, X4_ 10, X4_ 11, X4_ 12, X4_ 13, X4_ 14, X4_ 15, X4_ 16, X4_ 17, X4_ 18, X4_ 19, X4_ 20, X4_ 21, X4_ 22, X4_ 23, X4_ 24, X4_ 25, X4_ 26, X4_ 27, X4_ 28, X4_ 29, X4_ 30, X4_ 31, X4_ 32, .agg #[.int .i64 d1, .int .i64 d2, .int .i64 d3], .pointer (some ⟨b3, 0, none⟩), .agg #[.int .i64 p1, .int .i64 p2, .int .i64 p3], .agg #[.int .i64 (h1 : Int), .int .i64 (h2 : Int), .int .i64 (h3 : Int)], .int .i64 r, .tuple #[.agg #[.int .i64 p1, .int .i64 p2, .int .i64 p3, .int .i64 pb], .bool true], .agg #[.int .i64 p1, .int .i64 p2, .int .i64 p3, .int .i64 p4], .int .i64 r, .tuple #[.agg #[.int .i64 p1, .int .i64 p2, .int .i64 p3, .int .i64 pb], .bool true], .agg #[.int .i64 p1, .int .i64 p2, .int .i64 p3, .int .i64 pb], .bool true, .bool true, .bool false, .bool false, .int .i64 r, .bool (decide (r < 0)), .bool (decide (r < 0)), X9_ 0, X9_ 1, X9_ 2, X9_ 3, X9_ 4, X9_ 5, X9_ 6, X9_ 7, X9_ 8, X9_ 9, X9_ 10, X9_ 11, X9_ 12, X9_ 13, X9_ 14, X9_ 15, X9_ 16, X9_ 17, X9_ 18, X9_ 19, X9_ 20, .agg #[.int .i64 k1, .int .i64 k2, .int .i64 k3], .pointer (some ⟨b3, 0, none⟩), .agg #[.int .i64 p1, .int .i64 p2, .int .i64 p3], .agg #[.int .i64 k1, .int .i64 k2, .int .i64 k3], .int .i64 r, .int .i64 r, .bool false, .slice (some ad) len cap, .slice (some ad) len cap, .int .i64 (len : Int), .int .i64 (len : Int), .slice (some ad) len cap, .slice (some ⟨g, 0, none⟩) 4 c, .int .i64 4, .int .i64 (k : Int), .bool true, .pointer (some ⟨g, k * 3, none⟩), .agg #[.int .i64 y1, .int .i64 y2, .int .i64 y3], X15_ 0, X15_ 1, .agg #[.int .i64 n1, .int .i64 n2, .int .i64 n3], X15_ 3, X15_ 4, .agg #[.int .i64 m1, .int .i64 m2, .int .i64 m3], X 0, X 1, X 2, X 3, X 4, X 5, X 6, X 7, X 8, X 9, X 10, X 11, X 12, X 13, X 14, X 15, X 16, X 17, X 18, X 19, X 20, X 21, X 22, X 23, X 24, X 25, X 26, u176, undef, undef, undef, undef, undef, undef, undef, undef, undef, undef, undef, undef, undef, undef, undef, undef, undef, undef, undef, undef, undef, undef, undef, undef, undef, undef, undef, undef, undef, undef, undef, undef, undef, undef, undef, undef, undef, undef, undef, undef, undef, undef, undef, undef, undef, undef, undef, undef, undef, undef, undef, undef, undef, undef, undef, undef, undef], []⟩) [(0, 0, 0), (0, 0, 0), (0, 0, 0), (0, 0, 0), (0, 0, 0), (0, 0, 0), (0, 0, 0), (0, 0, 0), (0, 0, 0), (0, 0, 0), (0, 0, 0), (0, 0, 0), (0, 0, 0), (0, 0, 0), (0, 0, 0), (0, 0, 0), (0, 0, 0), (0, 0, 0), (0, 0, 0), (0, 0, 0), (0, 0, 0), (0, 0, 0), (0, 0, 0), (0, 0, 0), (0, 0, 0), (0, 0, 0), (0, 0, 0)] (fun _ => []) [.val (.agg #[.int .i64 p1, .int .i64 p2, .int .i64 p3, .int .i64 p4]), .val (.agg #[.int .i64 y1, .int .i64 y2, .int .i64 y3]), .val (.int .i64 sv), .val (.bool true), .val (.bool true), .val (.agg #[.int .i64 n1, .int .i64 n2, .int .i64 n3]), .val (.bool true), .val (.bool true), .val (.bool true), .val (.agg #[.int .i64 p1, .int .i64 p2, .int .i64 p3, .int .i64 pb]), .val (.agg #[.int .i64 n1, .int .i64 n2, .int .i64 n3]), .val (.int .i64 sn), .val (.bool false), .val (.bool false), .val (.bool false), .val (.agg #[.int .i64 m1, .int .i64 m2, .int .i64 m3]), .val (.bool false), .val (.bool false), .val undef, .val undef, .val undef, .val undef, .val undef, .val undef, .val undef, .val (.bool false), .val (.bool false)] [[], [], [0, 1], [2], [3], [4], [4, 5], [4, 6], [7], [8], [8], [8, 9, 10], [8, 11], [8, 12], [13], [14], [14, 15], [14, 16], [17], [17], [17, 18, 19], [17], [17], [17, 21, 22], [17, 20, 23], [14, 17, 24], [14, 25]] [0, 1, 2, 3, 4, 5, 6, 7, 8, 9, 10, 11, 12, 13, 14, 15, 16, 17, 18, 19, 20, 21, 22, 23, 24, 25, 26] [] [] [] (fun _ => 0) W15 (by kernel_rfl) (by kernel_rfl) (by kernel_rfl) (by kernel_rfl) (by kernel_rfl) ?dist ?olds ?op ?al ?st ?into ?fin (upd (upd (upd (upd (upd (upd (upd (upd (upd (upd (upd (upd (upd (upd (upd (upd (upd (upd (upd (upd (upd (upd (upd (upd (upd (upd (upd (fun _ => undef) 0 (u149)) 1 (u150)) 2 (u151)) 3 (u152)) 4 (u153)) 5 (u154)) 6 (u155)) 7 (u156)) 8 (u157)) 9 (u158)) 10 (u159)) 11 (u160)) 12 (u161)) 13 (u162)) 14 (u163)) 15 (u164)) 16 (u165)) 17 (u166)) 18 (u167)) 19 (u168)) 20 (u169)) 21 (u170)) 22 (u171)) 23 (u172)) 24 (u173)) 25 (u174)) 26 (u175)) _ _ (by kernel_rfl) (of_decide_eq_true (by kernel_rfl)) (of_decide_eq_true (by kernel_rfl))
                    case hn => rfl
                    case dist => intro i hi j hj; simp at hi hj; try omega
                    case olds => exact nofun
                    case op =>
                      repeat' first | exact Each.nil | refine Each.cons ?_ ?_
                      all_goals intro X w7 H hb hD h
                      · have hv := v3.below (show Keep [] _ _ from hb).nil
                        have c0_ := hv.at 0 rfl
                        have c1_ := hv.at 1 rfl
                        have c2_ := hv.at 2 rfl
                        have c3_ := hv.at 3 rfl
                        refine tv rfl (by rfl) ?_ (by exact h _ w7 rfl (Below.refl _ _))
                        go_simp <;> first | rfl | (simp only [IntWalk.i64_left]; rfl) | (simp only [IntWalk.i64_left, *]; done) | (simp only [IntWalk.i64_left, *]; rfl)
                      · have hv := v9.below (show Keep [] _ _ from hb).nil
                        have c0_ := hv.at 0 rfl
                        have c1_ := hv.at 1 rfl
                        have c2_ := hv.at 2 rfl
                        refine tv rfl (by rfl) ?_ (by exact h _ w7 rfl (Below.refl _ _))
                        go_simp <;> first | rfl | (simp only [IntWalk.i64_left]; rfl) | (simp only [IntWalk.i64_left, *]; done) | (simp only [IntWalk.i64_left, *]; rfl)
                      · have e0_ : X 0 = _ := hD 0 (by decide) rfl
                        have e1_ : X 1 = _ := hD 1 (by decide) rfl
                        refine wpOp_call (i := 2) (f := 33) (args := #[.agg #[.int .i64 p1, .int .i64 p2, .int .i64 p3, .int .i64 p4], .agg #[.int .i64 y1, .int .i64 y2, .int .i64 y3]]) 151 rfl rfl (by simp only [e0_, e1_]; rfl) (by simp only [e0_, e1_]; go_simp) ?_
                        refine (cS.out _).mono ?_
                        rintro e w8 ⟨rfl, hk⟩
                        exact ⟨_, rfl, h _ w8 rfl hk⟩
                      · have e2_ : X 2 = _ := hD 2 (by decide) rfl
                        have f_ := hle
                        refine tv rfl (by simp only [e2_]; rfl) ?_ (by exact h _ w7 rfl (Below.refl _ _))
                        simp only [e2_]; go_simp <;> first | rfl | (simp only [IntWalk.i64_left]; rfl) | (simp only [IntWalk.i64_left, *]; done) | (simp only [IntWalk.i64_left, *]; rfl)
                      · have e3_ : X 3 = _ := hD 3 (by decide) rfl
                        refine tv rfl (by simp only [e3_]; rfl) ?_ (by exact h _ w7 rfl (Below.refl _ _))
                        simp only [e3_]; go_simp <;> first | rfl | (simp only [IntWalk.i64_left]; rfl) | (simp only [IntWalk.i64_left, *]; done) | (simp only [IntWalk.i64_left, *]; rfl)
                      · have e4_ : X 4 = _ := hD 4 (by decide) rfl
                        have hv := v10.below (show Keep [] _ _ from hb).nil
                        have c0_ := hv.at 0 rfl
                        have c1_ := hv.at 1 rfl
                        have c2_ := hv.at 2 rfl
                        refine tv rfl (by simp only [e4_]; rfl) ?_ (by exact h _ w7 rfl (Below.refl _ _))
                        simp only [e4_]; go_simp <;> first | rfl | (simp only [IntWalk.i64_left]; rfl) | (simp only [IntWalk.i64_left, *]; done) | (simp only [IntWalk.i64_left, *]; rfl)
                      · have e4_ : X 4 = _ := hD 4 (by decide) rfl
                        have e5_ : X 5 = _ := hD 5 (by decide) rfl
                        refine wpOp_call (i := 6) (f := 13) (args := #[.agg #[.int .i64 n1, .int .i64 n2, .int .i64 n3]]) 155 rfl rfl (by simp only [e4_, e5_]; rfl) (by simp only [e4_, e5_]; go_simp) ?_
                        refine (cI.out _).mono ?_
                        rintro e w8 ⟨rfl, hk⟩
                        exact ⟨_, rfl, h _ w8 rfl hk⟩
                      · have e4_ : X 4 = _ := hD 4 (by decide) rfl
                        have e6_ : X 6 = _ := hD 6 (by decide) rfl
                        refine tv rfl (by simp only [e4_, e6_]; rfl) ?_ (by exact h _ w7 rfl (Below.refl _ _))
                        simp only [e4_, e6_]; go_simp <;> first | rfl | (simp only [IntWalk.i64_left]; rfl) | (simp only [IntWalk.i64_left, *]; done) | (simp only [IntWalk.i64_left, *]; rfl)
                      · have e7_ : X 7 = _ := hD 7 (by decide) rfl
                        refine tv rfl (by simp only [e7_]; rfl) ?_ (by exact h _ w7 rfl (Below.refl _ _))
                        simp only [e7_]; go_simp <;> first | rfl | (simp only [IntWalk.i64_left]; rfl) | (simp only [IntWalk.i64_left, *]; done) | (simp only [IntWalk.i64_left, *]; rfl)
                      · have e8_ : X 8 = _ := hD 8 (by decide) rfl
                        have hv := v7.below (show Keep [] _ _ from hb).nil
                        have c0_ := hv.at 0 rfl
                        have c1_ := hv.at 1 rfl
                        have c2_ := hv.at 2 rfl
                        have c3_ := hv.at 3 rfl
                        refine tv rfl (by simp only [e8_]; rfl) ?_ (by exact h _ w7 rfl (Below.refl _ _))
                        simp only [e8_]; go_simp <;> first | rfl | (simp only [IntWalk.i64_left]; rfl) | (simp only [IntWalk.i64_left, *]; done) | (simp only [IntWalk.i64_left, *]; rfl)
                      · have e8_ : X 8 = _ := hD 8 (by decide) rfl
                        have hv := v10.below (show Keep [] _ _ from hb).nil
                        have c0_ := hv.at 0 rfl
                        have c1_ := hv.at 1 rfl
                        have c2_ := hv.at 2 rfl
                        refine tv rfl (by simp only [e8_]; rfl) ?_ (by exact h _ w7 rfl (Below.refl _ _))
                        simp only [e8_]; go_simp <;> first | rfl | (simp only [IntWalk.i64_left]; rfl) | (simp only [IntWalk.i64_left, *]; done) | (simp only [IntWalk.i64_left, *]; rfl)
                      · have e8_ : X 8 = _ := hD 8 (by decide) rfl
                        have e9_ : X 9 = _ := hD 9 (by decide) rfl
                        have e10_ : X 10 = _ := hD 10 (by decide) rfl
                        refine wpOp_call (i := 11) (f := 33) (args := #[.agg #[.int .i64 p1, .int .i64 p2, .int .i64 p3, .int .i64 pb], .agg #[.int .i64 n1, .int .i64 n2, .int .i64 n3]]) 160 rfl rfl (by simp only [e8_, e9_, e10_]; rfl) (by simp only [e8_, e9_, e10_]; go_simp) ?_
                        refine (cT.out _).mono ?_
                        rintro e w8 ⟨rfl, hk⟩
                        exact ⟨_, rfl, h _ w8 rfl hk⟩
                      · have e8_ : X 8 = _ := hD 8 (by decide) rfl
                        have e11_ : X 11 = _ := hD 11 (by decide) rfl
                        have f_ := hnear.out hle (by first | rfl | trivial)
                        have f2_ : decide (0 < sn) = false := by simpa using f_
                        have f3_ : ¬ 0 < sn := by omega
                        refine tv rfl (by simp only [e8_, e11_]; rfl) ?_ (by exact h _ w7 rfl (Below.refl _ _))
                        simp only [e8_, e11_]; go_simp <;> first | rfl | (simp only [IntWalk.i64_left]; rfl) | (simp only [IntWalk.i64_left, *]; done) | (simp only [IntWalk.i64_left, *]; rfl)
                      · have e8_ : X 8 = _ := hD 8 (by decide) rfl
                        have e12_ : X 12 = _ := hD 12 (by decide) rfl
                        refine tv rfl (by simp only [e8_, e12_]; rfl) ?_ (by exact h _ w7 rfl (Below.refl _ _))
                        simp only [e8_, e12_]; go_simp <;> first | rfl | (simp only [IntWalk.i64_left]; rfl) | (simp only [IntWalk.i64_left, *]; done) | (simp only [IntWalk.i64_left, *]; rfl)
                      · have e13_ : X 13 = _ := hD 13 (by decide) rfl
                        refine tv rfl (by simp only [e13_]; rfl) ?_ (by exact h _ w7 rfl (Below.refl _ _))
                        simp only [e13_]; go_simp <;> first | rfl | (simp only [IntWalk.i64_left]; rfl) | (simp only [IntWalk.i64_left, *]; done) | (simp only [IntWalk.i64_left, *]; rfl)
                      · have e14_ : X 14 = _ := hD 14 (by decide) rfl
                        have hv := v11.below (show Keep [] _ _ from hb).nil
                        have c0_ := hv.at 0 rfl
                        have c1_ := hv.at 1 rfl
                        have c2_ := hv.at 2 rfl
                        refine tv rfl (by simp only [e14_]; rfl) ?_ (by exact h _ w7 rfl (Below.refl _ _))
                        simp only [e14_]; go_simp <;> first | rfl | (simp only [IntWalk.i64_left]; rfl) | (simp only [IntWalk.i64_left, *]; done) | (simp only [IntWalk.i64_left, *]; rfl)
                      · have e14_ : X 14 = _ := hD 14 (by decide) rfl
                        have e15_ : X 15 = _ := hD 15 (by decide) rfl
                        refine wpOp_call (i := 16) (f := 13) (args := #[.agg #[.int .i64 m1, .int .i64 m2, .int .i64 m3]]) 165 rfl rfl (by simp only [e14_, e15_]; rfl) (by simp only [e14_, e15_]; go_simp) ?_
                        refine (cJ.out _).mono ?_
                        rintro e w8 ⟨rfl, hk⟩
                        exact ⟨_, rfl, h _ w8 rfl hk⟩
                      · have e14_ : X 14 = _ := hD 14 (by decide) rfl
                        have e16_ : X 16 = _ := hD 16 (by decide) rfl
                        refine tv rfl (by simp only [e14_, e16_]; rfl) ?_ (by exact h _ w7 rfl (Below.refl _ _))
                        simp only [e14_, e16_]; go_simp <;> first | rfl | (simp only [IntWalk.i64_left]; rfl) | (simp only [IntWalk.i64_left, *]; done) | (simp only [IntWalk.i64_left, *]; rfl)
                      · have e17_ : X 17 = _ := hD 17 (by decide) rfl
                        refine tu rfl (by simp only [e17_]; rfl) ?_
                        exact h _ w7 rfl (Below.refl _ _)
                      · have e17_ : X 17 = _ := hD 17 (by decide) rfl
                        refine tu rfl (by simp only [e17_]; rfl) ?_
                        exact h _ w7 rfl (Below.refl _ _)
                      · have e17_ : X 17 = _ := hD 17 (by decide) rfl
                        have e18_ : X 18 = _ := hD 18 (by decide) rfl
                        have e19_ : X 19 = _ := hD 19 (by decide) rfl
                        refine tu rfl (by simp only [e17_, e18_, e19_]; rfl) ?_
                        exact h _ w7 rfl (Below.refl _ _)
                      · have e17_ : X 17 = _ := hD 17 (by decide) rfl
                        refine tu rfl (by simp only [e17_]; rfl) ?_
                        exact h _ w7 rfl (Below.refl _ _)
                      · have e17_ : X 17 = _ := hD 17 (by decide) rfl
                        refine tu rfl (by simp only [e17_]; rfl) ?_
                        exact h _ w7 rfl (Below.refl _ _)
                      · have e17_ : X 17 = _ := hD 17 (by decide) rfl
                        have e21_ : X 21 = _ := hD 21 (by decide) rfl
                        have e22_ : X 22 = _ := hD 22 (by decide) rfl
                        refine tu rfl (by simp only [e17_, e21_, e22_]; rfl) ?_
                        exact h _ w7 rfl (Below.refl _ _)
                      · have e17_ : X 17 = _ := hD 17 (by decide) rfl
                        have e20_ : X 20 = _ := hD 20 (by decide) rfl
                        have e23_ : X 23 = _ := hD 23 (by decide) rfl
                        refine tu rfl (by simp only [e17_, e20_, e23_]; rfl) ?_
                        exact h _ w7 rfl (Below.refl _ _)
                      · have e14_ : X 14 = _ := hD 14 (by decide) rfl
                        have e17_ : X 17 = _ := hD 17 (by decide) rfl
                        have e24_ : X 24 = _ := hD 24 (by decide) rfl
                        refine tv rfl (by simp only [e14_, e17_, e24_]; rfl) ?_ (by exact h _ w7 rfl (Below.refl _ _))
                        simp only [e14_, e17_, e24_]; go_simp <;> first | rfl | (simp only [IntWalk.i64_left]; rfl) | (simp only [IntWalk.i64_left, *]; done) | (simp only [IntWalk.i64_left, *]; rfl)
                      · have e14_ : X 14 = _ := hD 14 (by decide) rfl
                        have e25_ : X 25 = _ := hD 25 (by decide) rfl
                        refine tv rfl (by simp only [e14_, e25_]; rfl) ?_ (by exact h _ w7 rfl (Below.refl _ _))
                        simp only [e14_, e25_]; go_simp <;> first | rfl | (simp only [IntWalk.i64_left]; rfl) | (simp only [IntWalk.i64_left, *]; done) | (simp only [IntWalk.i64_left, *]; rfl)
                    case al => exact Each.nil
                    case st => exact Each.nil
                    case into => exact Each.nil
                    case fin =>
                      intro X16_ W16 hI
                      have hE : Keep [] W15 W16 := hI.keep
                      have e26_ : X16_ 26 = _ := hI.fact 26 (by decide) rfl rfl
                      have v3 := v3.below hE.nil
                      have v4 := v4.below hE.nil
                      have v6 := v6.below hE.nil
                      have v7 := v7.below hE.nil
                      have v8 := v8.below hE.nil
                      have hv := hv.below hE.nil
                      have v9 := v9.below hE.nil
                      have v10 := v10.below hE.nil
                      have v11 := v11.below hE.nil
                      have hB := hB.trans (hE.nil.mono hB.size)
                      simp only [e26_]
                      clear e26_ hI hE
                      go_wp2_with fail
                      have hBs := hB.size
                      go_roundw
                      case rel => first | exact ⟨k + 1, by omega, by simp, by repeat (first | exact hB | refine Below.alloc ?_ (by first | omega | (simp; try omega)) _ | refine Below.setCell ?_ (by first | omega | (simp; try omega)) _), v3, v4, v6, v7, v8, hv⟩ | ((repeat apply Exists.intro); refine ⟨⟨k + 1, by omega, by simp, by repeat (first | exact hB | refine Below.alloc ?_ (by first | omega | (simp; try omega)) _ | refine Below.setCell ?_ (by first | omega | (simp; try omega)) _), v3, v4, v6, v7, v8, hv⟩, rfl⟩)
                      case measure => simp [intOf]; omega
                  ·
                    skip
                    go_wp2_with fail
                    refine wp_region_dag (by kernel_rfl) ?_
                    intro W15 hk
                    have hs := hk
                    have v3 := v3.below hs
                    have v4 := v4.below hs
                    have v6 := v6.below hs
                    have v7 := v7.below hs
                    have v8 := v8.below hs
                    have hv := hv.below hs
                    have v9 := v9.below hs
                    have v10 := v10.below hs
                    have v11 := v11.below hs
                    have hB := hB.trans (hs.mono hB.size)
                    clear hs hk
                    refine dagV (fun _ => trivial) 27 ?hn (fun X => ⟨#[.agg #[.slice a0 len0 cap0, .slice a1 len1 cap1], .slice (some ad) len cap, .agg #[.int .u8 (e0 : Int), .int .u8 (e1 : Int), .int .u8 (e2 : Int)], .agg #[.int .u8 (g0 : Int), .int .u8 (g1 : Int), .int .u8 (g2 : Int)], .pointer (some ⟨b0, 0, none⟩), undef, .pointer (some ⟨b1, 0, none⟩), .pointer (some ⟨b2, 0, none⟩), u8, .bool true, .pointer (some ⟨b3, 0, none⟩), .pointer (some ⟨b4, 0, none⟩), .pointer (some ⟨b5, 0, none⟩), .pointer (some ⟨b6, 0, none⟩), .int .i64 r, .pointer (some ⟨b7, 0, none⟩), .bool true, .pointer (some ⟨b8, 0, none⟩), undef, .pointer (some ⟨b9, 0, none⟩), .pointer (some ⟨b10, 0, none⟩), .pointer (some ⟨b11, 0, none⟩), undef, undef, .bool true, X2_ 0, X2_ 1, X2_ 2, X2_ 3, X2_ 4, X2_ 5, X2_ 6, .agg #[.int .i64 p1, .int .i64 p2, .int .i64 p3, .int .i64 p4], X2_ 8, X2_ 9, X2_ 10, X2_ 11, X2_ 12, X2_ 13, X2_ 14, .agg #[.int .i64 q1, .int .i64 q2, .int .i64 q3, .int .i64 q4], .pointer (some ⟨b1, 0, none⟩), .int .u8 (e0 : Int), .int .i64 (e0 : Int), .int .i64 ((e0 : Int) % 13), .pointer (some ⟨b1, 1, none⟩), .int .u8 (e1 : Int), .int .i64 (e1 : Int), .int .i64 ((e1 : Int) % 13), .pointer (some ⟨b1, 2, none⟩), .int .u8 (e2 : Int), .int .i64 (e2 : Int), .int .i64 ((e2 : Int) % 13), .agg #[.int .i64 (h1 : Int), .int .i64 (h2 : Int), .int .i64 (h3 : Int)], X4_ 0, X4_ 1, X4_ 2, X4_ 3, X4_ 4, X4_ 5, X4_ 6, X4_ 7, X4_ 8, X4_ 9, X4_ 10, X4_ 11, X4_ 12, X4_ 13, X4_ 14, X4_ 15, X4_ 16, X4_ 17, X4_ 18, X4_ 19, X4_ 20, X4_ 21, X4_ 22, X4_ 23, X4_ 24, X4_ 25, X4_ 26, X4_ 27, X4_ 28, X4_ 29, X4_ 30, X4_ 31, X4_ 32, .agg #[.int .i64 d1, .int .i64 d2, .int .i64 d3], .pointer (some ⟨b3, 0, none⟩), .agg #[.int .i64 p1, .int .i64 p2, .int .i64 p3], .agg #[.int .i64 (h1 : Int), .int .i64 (h2 : Int), .int .i64 (h3 : Int)], .int .i64 r, .tuple #[.agg #[.int .i64 p1, .int .i64 p2, .int .i64 p3, .int .i64 pb], .bool true], .agg #[.int .i64 p1, .int .i64 p2, .int .i64 p3, .int .i64 p4], .int .i64 r, .tuple #[.agg #[.int .i64 p1, .int .i64 p2, .int .i64 p3, .int .i64 pb], .bool true], .agg #[.int .i64 p1, .int .i64 p2, .int .i64 p3, .int .i64 pb], .bool true, .bool true, .bool false, .bool false, .int .i64 r, .bool (decide (r < 0)), .bool (decide (r < 0)), X9_ 0, X9_ 1, X9_ 2, X9_ 3, X9_ 4, X9_ 5, X9_ 6, X9_ 7, X9_ 8, X9_ 9, X9_ 10, X9_ 11, X9_ 12, X9_ 13, X9_ 14, X9_ 15, X9_ 16, X9_ 17, X9_ 18, X9_ 19, X9_ 20, .agg #[.int .i64 k1, .int .i64 k2, .int .i64 k3], .pointer (some ⟨b3, 0, none⟩), .agg #[.int .i64 p1, .int .i64 p2, .int .i64 p3], .agg #[.int .i64 k1, .int .i64 k2, .int .i64 k3], .int .i64 r, .int .i64 r, .bool false, .slice (some ad) len cap, .slice (some ad) len cap, .int .i64 (len : Int), .int .i64 (len : Int), .slice (some ad) len cap, .slice (some ⟨g, 0, none⟩) 4 c, .int .i64 4, .int .i64 (k : Int), .bool true, .pointer (some ⟨g, k * 3, none⟩), .agg #[.int .i64 y1, .int .i64 y2, .int .i64 y3], X15_ 0, X15_ 1, .agg #[.int .i64 n1, .int .i64 n2, .int .i64 n3], X15_ 3, X15_ 4, .agg #[.int .i64 m1, .int .i64 m2, .int .i64 m3], X 0, X 1, X 2, X 3, X 4, X 5, X 6, X 7, X 8, X 9, X 10, X 11, X 12, X 13, X 14, X 15, X 16, X 17, X 18, X 19, X 20, X 21, X 22, X 23, X 24, X 25, X 26, u176, undef, undef, undef, undef, undef, undef, undef, undef, undef, undef, undef, undef, undef, undef, undef, undef, undef, undef, undef, undef, undef, undef, undef, undef, undef, undef, undef, undef, undef, undef, undef, undef, undef, undef, undef, undef, undef, undef, undef, undef, undef, undef, undef, undef, undef, undef, undef, undef, undef, undef, undef, undef, undef, undef, undef, undef, undef], []⟩) [(0, 0, 0), (0, 0, 0), (0, 0, 0), (0, 0, 0), (0, 0, 0), (0, 0, 0), (0, 0, 0), (0, 0, 0), (0, 0, 0), (0, 0, 0), (0, 0, 0), (0, 0, 0), (0, 0, 0), (0, 0, 0), (0, 0, 0), (0, 0, 0), (0, 0, 0), (0, 0, 0), (0, 0, 0), (0, 0, 0), (0, 0, 0), (0, 0, 0), (0, 0, 0), (0, 0, 0), (0, 0, 0), (0, 0, 0), (0, 0, 0)] (fun _ => []) [.val (.agg #[.int .i64 p1, .int .i64 p2, .int .i64 p3, .int .i64 p4]), .val (.agg #[.int .i64 y1, .int .i64 y2, .int .i64 y3]), .val (.int .i64 sv), .val (.bool true), .val (.bool true), .val (.agg #[.int .i64 n1, .int .i64 n2, .int .i64 n3]), .val (.bool true), .val (.bool true), .val (.bool true), .val (.agg #[.int .i64 p1, .int .i64 p2, .int .i64 p3, .int .i64 pb]), .val (.agg #[.int .i64 n1, .int .i64 n2, .int .i64 n3]), .val (.int .i64 sn), .val (.bool false), .val (.bool false), .val (.bool false), .val (.agg #[.int .i64 m1, .int .i64 m2, .int .i64 m3]), .val (.bool true), .val (.bool true), .val (.agg #[.int .i64 p1, .int .i64 p2, .int .i64 p3, .int .i64 p4]), .val (.agg #[.int .i64 y1, .int .i64 y2, .int .i64 y3]), .val (.int .i64 sv), .val (.agg #[.int .i64 p1, .int .i64 p2, .int .i64 p3, .int .i64 pb]), .val (.agg #[.int .i64 m1, .int .i64 m2, .int .i64 m3]), .val (.int .i64 sv), .val (.bool false), .val (.bool false), .val (.bool false)] [[], [], [0, 1], [2], [3], [4], [4, 5], [4, 6], [7], [8], [8], [8, 9, 10], [8, 11], [8, 12], [13], [14], [14, 15], [14, 16], [17], [17], [17, 18, 19], [17], [17], [17, 21, 22], [17, 20, 23], [14, 17, 24], [14, 25]] [0, 1, 2, 3, 4, 5, 6, 7, 8, 9, 10, 11, 12, 13, 14, 15, 16, 17, 18, 19, 20, 21, 22, 23, 24, 25, 26] [] [] [] (fun _ => 0) W15 (by kernel_rfl) (by kernel_rfl) (by kernel_rfl) (by kernel_rfl) (by kernel_rfl) ?dist ?olds ?op ?al ?st ?into ?fin (upd (upd (upd (upd (upd (upd (upd (upd (upd (upd (upd (upd (upd (upd (upd (upd (upd (upd (upd (upd (upd (upd (upd (upd (upd (upd (upd (fun _ => undef) 0 (u149)) 1 (u150)) 2 (u151)) 3 (u152)) 4 (u153)) 5 (u154)) 6 (u155)) 7 (u156)) 8 (u157)) 9 (u158)) 10 (u159)) 11 (u160)) 12 (u161)) 13 (u162)) 14 (u163)) 15 (u164)) 16 (u165)) 17 (u166)) 18 (u167)) 19 (u168)) 20 (u169)) 21 (u170)) 22 (u171)) 23 (u172)) 24 (u173)) 25 (u174)) 26 (u175)) _ _ (by kernel_rfl) (of_decide_eq_true (by kernel_rfl)) (of_decide_eq_true (by kernel_rfl))
                    case hn => rfl
                    case dist => intro i hi j hj; simp at hi hj; try omega
                    case olds => exact nofun
                    case op =>
                      repeat' first | exact Each.nil | refine Each.cons ?_ ?_
                      all_goals intro X w7 H hb hD h
                      · have hv := v3.below (show Keep [] _ _ from hb).nil
                        have c0_ := hv.at 0 rfl
                        have c1_ := hv.at 1 rfl
                        have c2_ := hv.at 2 rfl
                        have c3_ := hv.at 3 rfl
                        refine tv rfl (by rfl) ?_ (by exact h _ w7 rfl (Below.refl _ _))
                        go_simp <;> first | rfl | (simp only [IntWalk.i64_left]; rfl) | (simp only [IntWalk.i64_left, *]; done) | (simp only [IntWalk.i64_left, *]; rfl)
                      · have hv := v9.below (show Keep [] _ _ from hb).nil
                        have c0_ := hv.at 0 rfl
                        have c1_ := hv.at 1 rfl
                        have c2_ := hv.at 2 rfl
                        refine tv rfl (by rfl) ?_ (by exact h _ w7 rfl (Below.refl _ _))
                        go_simp <;> first | rfl | (simp only [IntWalk.i64_left]; rfl) | (simp only [IntWalk.i64_left, *]; done) | (simp only [IntWalk.i64_left, *]; rfl)
                      · have e0_ : X 0 = _ := hD 0 (by decide) rfl
                        have e1_ : X 1 = _ := hD 1 (by decide) rfl
                        refine wpOp_call (i := 2) (f := 33) (args := #[.agg #[.int .i64 p1, .int .i64 p2, .int .i64 p3, .int .i64 p4], .agg #[.int .i64 y1, .int .i64 y2, .int .i64 y3]]) 151 rfl rfl (by simp only [e0_, e1_]; rfl) (by simp only [e0_, e1_]; go_simp) ?_
                        refine (cS.out _).mono ?_
                        rintro e w8 ⟨rfl, hk⟩
                        exact ⟨_, rfl, h _ w8 rfl hk⟩
                      · have e2_ : X 2 = _ := hD 2 (by decide) rfl
                        have f_ := hle
                        refine tv rfl (by simp only [e2_]; rfl) ?_ (by exact h _ w7 rfl (Below.refl _ _))
                        simp only [e2_]; go_simp <;> first | rfl | (simp only [IntWalk.i64_left]; rfl) | (simp only [IntWalk.i64_left, *]; done) | (simp only [IntWalk.i64_left, *]; rfl)
                      · have e3_ : X 3 = _ := hD 3 (by decide) rfl
                        refine tv rfl (by simp only [e3_]; rfl) ?_ (by exact h _ w7 rfl (Below.refl _ _))
                        simp only [e3_]; go_simp <;> first | rfl | (simp only [IntWalk.i64_left]; rfl) | (simp only [IntWalk.i64_left, *]; done) | (simp only [IntWalk.i64_left, *]; rfl)
                      · have e4_ : X 4 = _ := hD 4 (by decide) rfl
                        have hv := v10.below (show Keep [] _ _ from hb).nil
                        have c0_ := hv.at 0 rfl
                        have c1_ := hv.at 1 rfl
                        have c2_ := hv.at 2 rfl
                        refine tv rfl (by simp only [e4_]; rfl) ?_ (by exact h _ w7 rfl (Below.refl _ _))
                        simp only [e4_]; go_simp <;> first | rfl | (simp only [IntWalk.i64_left]; rfl) | (simp only [IntWalk.i64_left, *]; done) | (simp only [IntWalk.i64_left, *]; rfl)
                      · have e4_ : X 4 = _ := hD 4 (by decide) rfl
                        have e5_ : X 5 = _ := hD 5 (by decide) rfl
                        refine wpOp_call (i := 6) (f := 13) (args := #[.agg #[.int .i64 n1, .int .i64 n2, .int .i64 n3]]) 155 rfl rfl (by simp only [e4_, e5_]; rfl) (by simp only [e4_, e5_]; go_simp) ?_
                        refine (cI.out _).mono ?_
                        rintro e w8 ⟨rfl, hk⟩
                        exact ⟨_, rfl, h _ w8 rfl hk⟩
                      · have e4_ : X 4 = _ := hD 4 (by decide) rfl
                        have e6_ : X 6 = _ := hD 6 (by decide) rfl
                        refine tv rfl (by simp only [e4_, e6_]; rfl) ?_ (by exact h _ w7 rfl (Below.refl _ _))
                        simp only [e4_, e6_]; go_simp <;> first | rfl | (simp only [IntWalk.i64_left]; rfl) | (simp only [IntWalk.i64_left, *]; done) | (simp only [IntWalk.i64_left, *]; rfl)
                      · have e7_ : X 7 = _ := hD 7 (by decide) rfl
                        refine tv rfl (by simp only [e7_]; rfl) ?_ (by exact h _ w7 rfl (Below.refl _ _))
                        simp only [e7_]; go_simp <;> first | rfl | (simp only [IntWalk.i64_left]; rfl) | (simp only [IntWalk.i64_left, *]; done) | (simp only [IntWalk.i64_left, *]; rfl)
                      · have e8_ : X 8 = _ := hD 8 (by decide) rfl
                        have hv := v7.below (show Keep [] _ _ from hb).nil
                        have c0_ := hv.at 0 rfl
                        have c1_ := hv.at 1 rfl
                        have c2_ := hv.at 2 rfl
                        have c3_ := hv.at 3 rfl
                        refine tv rfl (by simp only [e8_]; rfl) ?_ (by exact h _ w7 rfl (Below.refl _ _))
                        simp only [e8_]; go_simp <;> first | rfl | (simp only [IntWalk.i64_left]; rfl) | (simp only [IntWalk.i64_left, *]; done) | (simp only [IntWalk.i64_left, *]; rfl)
                      · have e8_ : X 8 = _ := hD 8 (by decide) rfl
                        have hv := v10.below (show Keep [] _ _ from hb).nil
                        have c0_ := hv.at 0 rfl
                        have c1_ := hv.at 1 rfl
                        have c2_ := hv.at 2 rfl
                        refine tv rfl (by simp only [e8_]; rfl) ?_ (by exact h _ w7 rfl (Below.refl _ _))
                        simp only [e8_]; go_simp <;> first | rfl | (simp only [IntWalk.i64_left]; rfl) | (simp only [IntWalk.i64_left, *]; done) | (simp only [IntWalk.i64_left, *]; rfl)
                      · have e8_ : X 8 = _ := hD 8 (by decide) rfl
                        have e9_ : X 9 = _ := hD 9 (by decide) rfl
                        have e10_ : X 10 = _ := hD 10 (by decide) rfl
                        refine wpOp_call (i := 11) (f := 33) (args := #[.agg #[.int .i64 p1, .int .i64 p2, .int .i64 p3, .int .i64 pb], .agg #[.int .i64 n1, .int .i64 n2, .int .i64 n3]]) 160 rfl rfl (by simp only [e8_, e9_, e10_]; rfl) (by simp only [e8_, e9_, e10_]; go_simp) ?_
                        refine (cT.out _).mono ?_
                        rintro e w8 ⟨rfl, hk⟩
                        exact ⟨_, rfl, h _ w8 rfl hk⟩
                      · have e8_ : X 8 = _ := hD 8 (by decide) rfl
                        have e11_ : X 11 = _ := hD 11 (by decide) rfl
                        have f_ := hnear.out hle (by first | rfl | trivial)
                        have f2_ : decide (0 < sn) = false := by simpa using f_
                        have f3_ : ¬ 0 < sn := by omega
                        refine tv rfl (by simp only [e8_, e11_]; rfl) ?_ (by exact h _ w7 rfl (Below.refl _ _))
                        simp only [e8_, e11_]; go_simp <;> first | rfl | (simp only [IntWalk.i64_left]; rfl) | (simp only [IntWalk.i64_left, *]; done) | (simp only [IntWalk.i64_left, *]; rfl)
                      · have e8_ : X 8 = _ := hD 8 (by decide) rfl
                        have e12_ : X 12 = _ := hD 12 (by decide) rfl
                        refine tv rfl (by simp only [e8_, e12_]; rfl) ?_ (by exact h _ w7 rfl (Below.refl _ _))
                        simp only [e8_, e12_]; go_simp <;> first | rfl | (simp only [IntWalk.i64_left]; rfl) | (simp only [IntWalk.i64_left, *]; done) | (simp only [IntWalk.i64_left, *]; rfl)
                      · have e13_ : X 13 = _ := hD 13 (by decide) rfl
                        refine tv rfl (by simp only [e13_]; rfl) ?_ (by exact h _ w7 rfl (Below.refl _ _))
                        simp only [e13_]; go_simp <;> first | rfl | (simp only [IntWalk.i64_left]; rfl) | (simp only [IntWalk.i64_left, *]; done) | (simp only [IntWalk.i64_left, *]; rfl)
                      · have e14_ : X 14 = _ := hD 14 (by decide) rfl
                        have hv := v11.below (show Keep [] _ _ from hb).nil
                        have c0_ := hv.at 0 rfl
                        have c1_ := hv.at 1 rfl
                        have c2_ := hv.at 2 rfl
                        refine tv rfl (by simp only [e14_]; rfl) ?_ (by exact h _ w7 rfl (Below.refl _ _))
                        simp only [e14_]; go_simp <;> first | rfl | (simp only [IntWalk.i64_left]; rfl) | (simp only [IntWalk.i64_left, *]; done) | (simp only [IntWalk.i64_left, *]; rfl)
                      · have e14_ : X 14 = _ := hD 14 (by decide) rfl
                        have e15_ : X 15 = _ := hD 15 (by decide) rfl
                        refine wpOp_call (i := 16) (f := 13) (args := #[.agg #[.int .i64 m1, .int .i64 m2, .int .i64 m3]]) 165 rfl rfl (by simp only [e14_, e15_]; rfl) (by simp only [e14_, e15_]; go_simp) ?_
                        refine (cJ.out _).mono ?_
                        rintro e w8 ⟨rfl, hk⟩
                        exact ⟨_, rfl, h _ w8 rfl hk⟩
                      · have e14_ : X 14 = _ := hD 14 (by decide) rfl
                        have e16_ : X 16 = _ := hD 16 (by decide) rfl
                        refine tv rfl (by simp only [e14_, e16_]; rfl) ?_ (by exact h _ w7 rfl (Below.refl _ _))
                        simp only [e14_, e16_]; go_simp <;> first | rfl | (simp only [IntWalk.i64_left]; rfl) | (simp only [IntWalk.i64_left, *]; done) | (simp only [IntWalk.i64_left, *]; rfl)
                      · have e17_ : X 17 = _ := hD 17 (by decide) rfl
                        have hv := v3.below (show Keep [] _ _ from hb).nil
                        have c0_ := hv.at 0 rfl
                        have c1_ := hv.at 1 rfl
                        have c2_ := hv.at 2 rfl
                        have c3_ := hv.at 3 rfl
                        refine tv rfl (by simp only [e17_]; rfl) ?_ (by exact h _ w7 rfl (Below.refl _ _))
                        simp only [e17_]; go_simp <;> first | rfl | (simp only [IntWalk.i64_left]; rfl) | (simp only [IntWalk.i64_left, *]; done) | (simp only [IntWalk.i64_left, *]; rfl)
                      · have e17_ : X 17 = _ := hD 17 (by decide) rfl
                        have hv := v9.below (show Keep [] _ _ from hb).nil
                        have c0_ := hv.at 0 rfl
                        have c1_ := hv.at 1 rfl
                        have c2_ := hv.at 2 rfl
                        refine tv rfl (by simp only [e17_]; rfl) ?_ (by exact h _ w7 rfl (Below.refl _ _))
                        simp only [e17_]; go_simp <;> first | rfl | (simp only [IntWalk.i64_left]; rfl) | (simp only [IntWalk.i64_left, *]; done) | (simp only [IntWalk.i64_left, *]; rfl)
                      · have e17_ : X 17 = _ := hD 17 (by decide) rfl
                        have e18_ : X 18 = _ := hD 18 (by decide) rfl
                        have e19_ : X 19 = _ := hD 19 (by decide) rfl
                        refine wpOp_call (i := 20) (f := 33) (args := #[.agg #[.int .i64 p1, .int .i64 p2, .int .i64 p3, .int .i64 p4], .agg #[.int .i64 y1, .int .i64 y2, .int .i64 y3]]) 169 rfl rfl (by simp only [e17_, e18_, e19_]; rfl) (by simp only [e17_, e18_, e19_]; go_simp) ?_
                        refine (cS.out _).mono ?_
                        rintro e w8 ⟨rfl, hk⟩
                        exact ⟨_, rfl, h _ w8 rfl hk⟩
                      · have e17_ : X 17 = _ := hD 17 (by decide) rfl
                        have hv := v7.below (show Keep [] _ _ from hb).nil
                        have c0_ := hv.at 0 rfl
                        have c1_ := hv.at 1 rfl
                        have c2_ := hv.at 2 rfl
                        have c3_ := hv.at 3 rfl
                        refine tv rfl (by simp only [e17_]; rfl) ?_ (by exact h _ w7 rfl (Below.refl _ _))
                        simp only [e17_]; go_simp <;> first | rfl | (simp only [IntWalk.i64_left]; rfl) | (simp only [IntWalk.i64_left, *]; done) | (simp only [IntWalk.i64_left, *]; rfl)
                      · have e17_ : X 17 = _ := hD 17 (by decide) rfl
                        have hv := v11.below (show Keep [] _ _ from hb).nil
                        have c0_ := hv.at 0 rfl
                        have c1_ := hv.at 1 rfl
                        have c2_ := hv.at 2 rfl
                        refine tv rfl (by simp only [e17_]; rfl) ?_ (by exact h _ w7 rfl (Below.refl _ _))
                        simp only [e17_]; go_simp <;> first | rfl | (simp only [IntWalk.i64_left]; rfl) | (simp only [IntWalk.i64_left, *]; done) | (simp only [IntWalk.i64_left, *]; rfl)
                      · have e17_ : X 17 = _ := hD 17 (by decide) rfl
                        have e21_ : X 21 = _ := hD 21 (by decide) rfl
                        have e22_ : X 22 = _ := hD 22 (by decide) rfl
                        refine wpOp_call (i := 23) (f := 33) (args := #[.agg #[.int .i64 p1, .int .i64 p2, .int .i64 p3, .int .i64 pb], .agg #[.int .i64 m1, .int .i64 m2, .int .i64 m3]]) 172 rfl rfl (by simp only [e17_, e21_, e22_]; rfl) (by simp only [e17_, e21_, e22_]; go_simp) ?_
                        refine (cU.out (by first | rfl | trivial) _).mono ?_
                        rintro e w8 ⟨rfl, hk⟩
                        exact ⟨_, rfl, h _ w8 rfl hk⟩
                      · have e17_ : X 17 = _ := hD 17 (by decide) rfl
                        have e20_ : X 20 = _ := hD 20 (by decide) rfl
                        have e23_ : X 23 = _ := hD 23 (by decide) rfl
                        refine tv rfl (by simp only [e17_, e20_, e23_]; rfl) ?_ (by exact h _ w7 rfl (Below.refl _ _))
                        simp only [e17_, e20_, e23_]; go_simp <;> first | rfl | (simp only [IntWalk.i64_left]; rfl) | (simp only [IntWalk.i64_left, *]; done) | (simp only [IntWalk.i64_left, *]; rfl)
                      · have e14_ : X 14 = _ := hD 14 (by decide) rfl
                        have e17_ : X 17 = _ := hD 17 (by decide) rfl
                        have e24_ : X 24 = _ := hD 24 (by decide) rfl
                        refine tv rfl (by simp only [e14_, e17_, e24_]; rfl) ?_ (by exact h _ w7 rfl (Below.refl _ _))
                        simp only [e14_, e17_, e24_]; go_simp <;> first | rfl | (simp only [IntWalk.i64_left]; rfl) | (simp only [IntWalk.i64_left, *]; done) | (simp only [IntWalk.i64_left, *]; rfl)
                      · have e14_ : X 14 = _ := hD 14 (by decide) rfl
                        have e25_ : X 25 = _ := hD 25 (by decide) rfl
                        refine tv rfl (by simp only [e14_, e25_]; rfl) ?_ (by exact h _ w7 rfl (Below.refl _ _))
                        simp only [e14_, e25_]; go_simp <;> first | rfl | (simp only [IntWalk.i64_left]; rfl) | (simp only [IntWalk.i64_left, *]; done) | (simp only [IntWalk.i64_left, *]; rfl)
                    case al => exact Each.nil
                    case st => exact Each.nil
                    case into => exact Each.nil
                    case fin =>
                      intro X16_ W16 hI
                      have hE : Keep [] W15 W16 := hI.keep
                      have e26_ : X16_ 26 = _ := hI.fact 26 (by decide) rfl rfl
                      have v3 := v3.below hE.nil
                      have v4 := v4.below hE.nil
                      have v6 := v6.below hE.nil
                      have v7 := v7.below hE.nil
                      have v8 := v8.below hE.nil
                      have hv := hv.below hE.nil
                      have v9 := v9.below hE.nil
                      have v10 := v10.below hE.nil
                      have v11 := v11.below hE.nil
                      have hB := hB.trans (hE.nil.mono hB.size)
                      simp only [e26_]
                      clear e26_ hI hE
                      go_wp2_with fail
                      have hBs := hB.size
                      go_roundw
                      case rel => first | exact ⟨k + 1, by omega, by simp, by repeat (first | exact hB | refine Below.alloc ?_ (by first | omega | (simp; try omega)) _ | refine Below.setCell ?_ (by first | omega | (simp; try omega)) _), v3, v4, v6, v7, v8, hv⟩ | ((repeat apply Exists.intro); refine ⟨⟨k + 1, by omega, by simp, by repeat (first | exact hB | refine Below.alloc ?_ (by first | omega | (simp; try omega)) _ | refine Below.setCell ?_ (by first | omega | (simp; try omega)) _), v3, v4, v6, v7, v8, hv⟩, rfl⟩)
                      case measure => simp [intOf]; omega
          · obtain rfl : k = 4 := by omega
            obtain ⟨c0, c1, bb, cA, cB, cE, hbb, hbe, hle⟩ := order_facts jp jq cr2 hpb
            have cC : 0 < r → Hid (∀ w, Calls Try.prog 37 #[Pl p1 p2 p3 p4, Pl p1 p2 p3 pb] w (Gives w (.int .i64 (-1)))) := fun h => hideV fun w => Gives.to (by rw [← hpb.out]; exact congrArg (Value.int .i64) (cmp_pushed h)) (compare_p p1 p2 p3 p4 p1 p2 p3 pb w)
            have cb7_0 := v7.at 0 rfl
            have cb7_1 := v7.at 1 rfl
            have cb7_2 := v7.at 2 rfl
            have cb7_3 := v7.at 3 rfl
            go_wp2_with fail
            refine (cQ.out _).mono ?_
            rintro e W13 ⟨rfl, hk⟩
            try simp only [Pl]
            have hs := hk
            have v3 := v3.below hs
            have v4 := v4.below hs
            have v6 := v6.below hs
            have v7 := v7.below hs
            have v8 := v8.below hs
            have hv := hv.below hs
            have hB := hB.trans (hs.mono hB.size)
            clear cb7_0 cb7_1 cb7_2 cb7_3 hs hk
            have cC := hideV cC
            go_wp2_with fail
            refine wp_region_dag (by kernel_rfl) ?_
            intro W14 hk
            have hs : Below W13.heap.size W13 W14 := Below.trans (by repeat (first | exact Below.refl _ _ | refine Below.alloc ?_ (by first | omega | (simp; try omega)) _ | refine Below.setCell ?_ (by first | omega | (simp; try omega)) _)) (hk.mono (by first | omega | (simp; try omega)))
            have v3 := v3.below hs
            have v4 := v4.below hs
            have v6 := v6.below hs
            have v7 := v7.below hs
            have v8 := v8.below hs
            have hv := hv.below hs
            have v9 : Var W14 (W13.heap.size) [.int .i64 p1, .int .i64 p2, .int .i64 p3, .int .i64 p4] := Var.low ⟨by first | omega | (simp; try omega), by simp [Cel, go_sem]⟩ hk (by first | omega | (simp; try omega))
            obtain ⟨b9, hb9⟩ : ∃ b, W13.heap.size = b := ⟨_, rfl⟩
            have lob9 : w.heap.size ≤ b9 := by have := hB.size; omega
            rw [hb9] at v9
            try rw [hb9]
            have hB := hB.trans (hs.mono hB.size)
            clear hb9 hs hk
            refine dagV (fun _ => trivial) 27 ?hn (fun X => ⟨#[.agg #[.slice a0 len0 cap0, .slice a1 len1 cap1], .slice (some ad) len cap, .agg #[.int .u8 (e0 : Int), .int .u8 (e1 : Int), .int .u8 (e2 : Int)], .agg #[.int .u8 (g0 : Int), .int .u8 (g1 : Int), .int .u8 (g2 : Int)], .pointer (some ⟨b0, 0, none⟩), undef, .pointer (some ⟨b1, 0, none⟩), .pointer (some ⟨b2, 0, none⟩), u8, .bool true, .pointer (some ⟨b3, 0, none⟩), .pointer (some ⟨b4, 0, none⟩), .pointer (some ⟨b5, 0, none⟩), .pointer (some ⟨b6, 0, none⟩), .int .i64 r, .pointer (some ⟨b7, 0, none⟩), .bool true, .pointer (some ⟨b8, 0, none⟩), undef, u19, u20, u21, .pointer (some ⟨b9, 0, none⟩), .bool true, .bool true, X2_ 0, X2_ 1, X2_ 2, X2_ 3, X2_ 4, X2_ 5, X2_ 6, .agg #[.int .i64 p1, .int .i64 p2, .int .i64 p3, .int .i64 p4], X2_ 8, X2_ 9, X2_ 10, X2_ 11, X2_ 12, X2_ 13, X2_ 14, .agg #[.int .i64 q1, .int .i64 q2, .int .i64 q3, .int .i64 q4], .pointer (some ⟨b1, 0, none⟩), .int .u8 (e0 : Int), .int .i64 (e0 : Int), .int .i64 ((e0 : Int) % 13), .pointer (some ⟨b1, 1, none⟩), .int .u8 (e1 : Int), .int .i64 (e1 : Int), .int .i64 ((e1 : Int) % 13), .pointer (some ⟨b1, 2, none⟩), .int .u8 (e2 : Int), .int .i64 (e2 : Int), .int .i64 ((e2 : Int) % 13), .agg #[.int .i64 (h1 : Int), .int .i64 (h2 : Int), .int .i64 (h3 : Int)], X4_ 0, X4_ 1, X4_ 2, X4_ 3, X4_ 4, X4_ 5, X4_ 6, X4_ 7, X4_ 8, X4_ 9, X4_ 10, X4_ 11, X4_ 12, X4_ 13, X4_ 14, X4_ 15, X4_ 16, X4_ 17, X4_ 18, X4_ 19, X4_ 20, X4_ 21, X4_ 22, X4_ 23, X4_ 24, X4_ 25, X4_ 26, X4_ 27, X4_ 28, X4_ 29, X4_ 30, X4_ 31, X4_ 32, .agg #[.int .i64 d1, .int .i64 d2, .int .i64 d3], .pointer (some ⟨b3, 0, none⟩), .agg #[.int .i64 p1, .int .i64 p2, .int .i64 p3], .agg #[.int .i64 (h1 : Int), .int .i64 (h2 : Int), .int .i64 (h3 : Int)], .int .i64 r, .tuple #[.agg #[.int .i64 p1, .int .i64 p2, .int .i64 p3, .int .i64 pb], .bool true], .agg #[.int .i64 p1, .int .i64 p2, .int .i64 p3, .int .i64 p4], .int .i64 r, .tuple #[.agg #[.int .i64 p1, .int .i64 p2, .int .i64 p3, .int .i64 pb], .bool true], .agg #[.int .i64 p1, .int .i64 p2, .int .i64 p3, .int .i64 pb], .bool true, .bool true, .bool false, .bool false, .int .i64 r, .bool (decide (r < 0)), .bool (decide (r < 0)), X9_ 0, X9_ 1, X9_ 2, X9_ 3, X9_ 4, X9_ 5, X9_ 6, X9_ 7, X9_ 8, X9_ 9, X9_ 10, X9_ 11, X9_ 12, X9_ 13, X9_ 14, X9_ 15, X9_ 16, X9_ 17, X9_ 18, X9_ 19, X9_ 20, .agg #[.int .i64 k1, .int .i64 k2, .int .i64 k3], .pointer (some ⟨b3, 0, none⟩), .agg #[.int .i64 p1, .int .i64 p2, .int .i64 p3], .agg #[.int .i64 k1, .int .i64 k2, .int .i64 k3], .int .i64 r, .int .i64 r, .bool false, .slice (some ad) len cap, .slice (some ad) len cap, .int .i64 (len : Int), .int .i64 (len : Int), .slice (some ad) len cap, .slice (some ⟨g, 0, none⟩) 4 c, .int .i64 4, .int .i64 4, .bool false, u141, u142, u143, u144, u145, u146, u147, u148, u149, u150, u151, u152, u153, u154, u155, u156, u157, u158, u159, u160, u161, u162, u163, u164, u165, u166, u167, u168, u169, u170, u171, u172, u173, u174, u175, u176, .tuple #[.agg #[.int .i64 p1, .int .i64 p2, .int .i64 p3, .int .i64 p4], .bool true], .agg #[.int .i64 p1, .int .i64 p2, .int .i64 p3, .int .i64 pb], .int .i64 r, .int .i64 (-r), .tuple #[.agg #[.int .i64 p1, .int .i64 p2, .int .i64 p3, .int .i64 p4], .bool true], .agg #[.int .i64 p1, .int .i64 p2, .int .i64 p3, .int .i64 p4], .bool true, X 0, X 1, X 2, X 3, X 4, X 5, X 6, X 7, X 8, X 9, X 10, X 11, X 12, X 13, X 14, X 15, X 16, X 17, X 18, X 19, X 20, X 21, X 22, X 23, X 24, X 25, X 26, undef, undef, undef, undef, undef, undef, undef, undef, undef, undef, undef, undef, undef, undef, undef, undef, undef, undef, undef, undef, undef, undef, undef], []⟩) [(0, 0, 0), (0, 0, 0), (0, 0, 0), (0, 0, 0), (0, 0, 0), (0, 0, 0), (0, 0, 0), (0, 0, 0), (0, 0, 0), (0, 0, 0), (0, 0, 0), (0, 0, 0), (0, 0, 0), (0, 0, 0), (0, 0, 0), (0, 0, 0), (0, 0, 0), (0, 0, 0), (0, 0, 0), (0, 0, 0), (0, 0, 0), (0, 0, 0), (0, 0, 0), (0, 0, 0), (0, 0, 0), (0, 0, 0), (0, 0, 0)] (fun _ => []) [.val (.bool true), .val (.bool false), .val (.bool false), .val (.agg #[.int .i64 p1, .int .i64 p2, .int .i64 p3, .int .i64 p4]), .val (.agg #[.int .i64 p1, .int .i64 p2, .int .i64 p3, .int .i64 p4]), .val (.bool false), .val (.bool false), .val (.bool false), .val (.agg #[.int .i64 p1, .int .i64 p2, .int .i64 p3, .int .i64 p4]), .val (.agg #[.int .i64 q1, .int .i64 q2, .int .i64 q3, .int .i64 q4]), .val (.int .i64 (wrap64 (-c0))), .val (.agg #[.int .i64 q1, .int .i64 q2, .int .i64 q3, .int .i64 q4]), .val (.agg #[.int .i64 p1, .int .i64 p2, .int .i64 p3, .int .i64 p4]), .val (.int .i64 c0), .val (.int .i64 (wrap64 (-c0))), .val (.bool false), .val (.bool false), .val (.bool false), .val (.agg #[.int .i64 p1, .int .i64 p2, .int .i64 p3, .int .i64 p4]), .val (.agg #[.int .i64 q1, .int .i64 q2, .int .i64 q3, .int .i64 q4]), .val (.int .i64 (wrap64 (-c0))), .val (.bool bb), .val (.agg #[.int .i64 p1, .int .i64 p2, .int .i64 p3, .int .i64 p4]), .val (.agg #[.int .i64 q1, .int .i64 q2, .int .i64 q3, .int .i64 q4]), .val (.bool bb), .val (.bool false), .val (.bool false)] [[], [0], [1], [2], [2], [2, 3, 4], [2, 5], [6], [7], [7], [7, 8, 9], [7], [7], [7, 11, 12], [7, 13], [7, 10, 14], [7, 15], [16], [17], [17], [17, 18, 19], [17, 20], [17], [17], [17, 22, 23], [17, 21, 24], [17, 25]] [0, 1, 2, 3, 4, 5, 6, 7, 8, 9, 10, 11, 12, 13, 14, 15, 16, 17, 18, 19, 20, 21, 22, 23, 24, 25, 26] [] [] [] (fun _ => 0) W14 (by kernel_rfl) (by kernel_rfl) (by kernel_rfl) (by kernel_rfl) (by kernel_rfl) ?dist ?olds ?op ?al ?st ?into ?fin (fun _ => undef) _ _ (by kernel_rfl) (of_decide_eq_true (by kernel_rfl)) (of_decide_eq_true (by kernel_rfl))
            case hn => rfl
            case dist => intro i hi j hj; simp at hi hj; try omega
            case olds => exact nofun
            case op =>
              repeat' first | exact Each.nil | refine Each.cons ?_ ?_
              all_goals intro X w7 H hb hD h
              · refine tv rfl (by rfl) ?_ (by exact h _ w7 rfl (Below.refl _ _))
                go_simp <;> first | rfl | (simp only [IntWalk.i64_left]; rfl) | (simp only [IntWalk.i64_left, *]; done) | (simp only [IntWalk.i64_left, *]; rfl)
              · have e0_ : X 0 = _ := hD 0 (by decide) rfl
                refine tv rfl (by simp only [e0_]; rfl) ?_ (by exact h _ w7 rfl (Below.refl _ _))
                simp only [e0_]; go_simp <;> first | rfl | (simp only [IntWalk.i64_left]; rfl) | (simp only [IntWalk.i64_left, *]; done) | (simp only [IntWalk.i64_left, *]; rfl)
              · have e1_ : X 1 = _ := hD 1 (by decide) rfl
                refine tv rfl (by simp only [e1_]; rfl) ?_ (by exact h _ w7 rfl (Below.refl _ _))
                simp only [e1_]; go_simp <;> first | rfl | (simp only [IntWalk.i64_left]; rfl) | (simp only [IntWalk.i64_left, *]; done) | (simp only [IntWalk.i64_left, *]; rfl)
              · have e2_ : X 2 = _ := hD 2 (by decide) rfl
                have hv := v9.below (show Keep [] _ _ from hb).nil
                have c0_ := hv.at 0 rfl
                have c1_ := hv.at 1 rfl
                have c2_ := hv.at 2 rfl
                have c3_ := hv.at 3 rfl
                refine tv rfl (by simp only [e2_]; rfl) ?_ (by exact h _ w7 rfl (Below.refl _ _))
                simp only [e2_]; go_simp <;> first | rfl | (simp only [IntWalk.i64_left]; rfl) | (simp only [IntWalk.i64_left, *]; done) | (simp only [IntWalk.i64_left, *]; rfl)
              · have e2_ : X 2 = _ := hD 2 (by decide) rfl
                have hv := v3.below (show Keep [] _ _ from hb).nil
                have c0_ := hv.at 0 rfl
                have c1_ := hv.at 1 rfl
                have c2_ := hv.at 2 rfl
                have c3_ := hv.at 3 rfl
                refine tv rfl (by simp only [e2_]; rfl) ?_ (by exact h _ w7 rfl (Below.refl _ _))
                simp only [e2_]; go_simp <;> first | rfl | (simp only [IntWalk.i64_left]; rfl) | (simp only [IntWalk.i64_left, *]; done) | (simp only [IntWalk.i64_left, *]; rfl)
              · have e2_ : X 2 = _ := hD 2 (by decide) rfl
                have e3_ : X 3 = _ := hD 3 (by decide) rfl
                have e4_ : X 4 = _ := hD 4 (by decide) rfl
                refine tv rfl (by simp only [e2_, e3_, e4_]; rfl) ?_ (by exact h _ w7 rfl (Below.refl _ _))
                simp only [e2_, e3_, e4_]; go_simp <;> first | rfl | (simp only [IntWalk.i64_left]; rfl) | (simp only [IntWalk.i64_left, *]; done) | (simp only [IntWalk.i64_left, *]; rfl)
              · have e2_ : X 2 = _ := hD 2 (by decide) rfl
                have e5_ : X 5 = _ := hD 5 (by decide) rfl
                refine tv rfl (by simp only [e2_, e5_]; rfl) ?_ (by exact h _ w7 rfl (Below.refl _ _))
                simp only [e2_, e5_]; go_simp <;> first | rfl | (simp only [IntWalk.i64_left]; rfl) | (simp only [IntWalk.i64_left, *]; done) | (simp only [IntWalk.i64_left, *]; rfl)
              · have e6_ : X 6 = _ := hD 6 (by decide) rfl
                refine tv rfl (by simp only [e6_]; rfl) ?_ (by exact h _ w7 rfl (Below.refl _ _))
                simp only [e6_]; go_simp <;> first | rfl | (simp only [IntWalk.i64_left]; rfl) | (simp only [IntWalk.i64_left, *]; done) | (simp only [IntWalk.i64_left, *]; rfl)
              · have e7_ : X 7 = _ := hD 7 (by decide) rfl
                have hv := v3.below (show Keep [] _ _ from hb).nil
                have c0_ := hv.at 0 rfl
                have c1_ := hv.at 1 rfl
                have c2_ := hv.at 2 rfl
                have c3_ := hv.at 3 rfl
                refine tv rfl (by simp only [e7_]; rfl) ?_ (by exact h _ w7 rfl (Below.refl _ _))
                simp only [e7_]; go_simp <;> first | rfl | (simp only [IntWalk.i64_left]; rfl) | (simp only [IntWalk.i64_left, *]; done) | (simp only [IntWalk.i64_left, *]; rfl)
              · have e7_ : X 7 = _ := hD 7 (by decide) rfl
                have hv := v4.below (show Keep [] _ _ from hb).nil
                have c0_ := hv.at 0 rfl
                have c1_ := hv.at 1 rfl
                have c2_ := hv.at 2 rfl
                have c3_ := hv.at 3 rfl
                refine tv rfl (by simp only [e7_]; rfl) ?_ (by exact h _ w7 rfl (Below.refl _ _))
                simp only [e7_]; go_simp <;> first | rfl | (simp only [IntWalk.i64_left]; rfl) | (simp only [IntWalk.i64_left, *]; done) | (simp only [IntWalk.i64_left, *]; rfl)
              · have e7_ : X 7 = _ := hD 7 (by decide) rfl
                have e8_ : X 8 = _ := hD 8 (by decide) rfl
                have e9_ : X 9 = _ := hD 9 (by decide) rfl
                refine wpOp_call (i := 10) (f := 37) (args := #[.agg #[.int .i64 p1, .int .i64 p2, .int .i64 p3, .int .i64 p4], .agg #[.int .i64 q1, .int .i64 q2, .int .i64 q3, .int .i64 q4]]) 194 rfl rfl (by simp only [e7_, e8_, e9_]; rfl) (by simp only [e7_, e8_, e9_]; go_simp) ?_
                refine (cA.out _).mono ?_
                rintro e w8 ⟨rfl, hk⟩
                exact ⟨_, rfl, h _ w8 rfl hk⟩
              · have e7_ : X 7 = _ := hD 7 (by decide) rfl
                have hv := v4.below (show Keep [] _ _ from hb).nil
                have c0_ := hv.at 0 rfl
                have c1_ := hv.at 1 rfl
                have c2_ := hv.at 2 rfl
                have c3_ := hv.at 3 rfl
                refine tv rfl (by simp only [e7_]; rfl) ?_ (by exact h _ w7 rfl (Below.refl _ _))
                simp only [e7_]; go_simp <;> first | rfl | (simp only [IntWalk.i64_left]; rfl) | (simp only [IntWalk.i64_left, *]; done) | (simp only [IntWalk.i64_left, *]; rfl)
              · have e7_ : X 7 = _ := hD 7 (by decide) rfl
                have hv := v3.below (show Keep [] _ _ from hb).nil
                have c0_ := hv.at 0 rfl
                have c1_ := hv.at 1 rfl
                have c2_ := hv.at 2 rfl
                have c3_ := hv.at 3 rfl
                refine tv rfl (by simp only [e7_]; rfl) ?_ (by exact h _ w7 rfl (Below.refl _ _))
                simp only [e7_]; go_simp <;> first | rfl | (simp only [IntWalk.i64_left]; rfl) | (simp only [IntWalk.i64_left, *]; done) | (simp only [IntWalk.i64_left, *]; rfl)
              · have e7_ : X 7 = _ := hD 7 (by decide) rfl
                have e11_ : X 11 = _ := hD 11 (by decide) rfl
                have e12_ : X 12 = _ := hD 12 (by decide) rfl
                refine wpOp_call (i := 13) (f := 37) (args := #[.agg #[.int .i64 q1, .int .i64 q2, .int .i64 q3, .int .i64 q4], .agg #[.int .i64 p1, .int .i64 p2, .int .i64 p3, .int .i64 p4]]) 197 rfl rfl (by simp only [e7_, e11_, e12_]; rfl) (by simp only [e7_, e11_, e12_]; go_simp) ?_
                refine (cB.out _).mono ?_
                rintro e w8 ⟨rfl, hk⟩
                exact ⟨_, rfl, h _ w8 rfl hk⟩
              · have e7_ : X 7 = _ := hD 7 (by decide) rfl
                have e13_ : X 13 = _ := hD 13 (by decide) rfl
                refine tv rfl (by simp only [e7_, e13_]; rfl) ?_ (by exact h _ w7 rfl (Below.refl _ _))
                simp only [e7_, e13_]; go_simp <;> first | rfl | (simp only [IntWalk.i64_left]; rfl) | (simp only [IntWalk.i64_left, *]; done) | (simp only [IntWalk.i64_left, *]; rfl)
              · have e7_ : X 7 = _ := hD 7 (by decide) rfl
                have e10_ : X 10 = _ := hD 10 (by decide) rfl
                have e14_ : X 14 = _ := hD 14 (by decide) rfl
                refine tv rfl (by simp only [e7_, e10_, e14_]; rfl) ?_ (by exact h _ w7 rfl (Below.refl _ _))
                simp only [e7_, e10_, e14_]; go_simp <;> first | rfl | (simp only [IntWalk.i64_left]; rfl) | (simp only [IntWalk.i64_left, *]; done) | (simp only [IntWalk.i64_left, *]; rfl)
              · have e7_ : X 7 = _ := hD 7 (by decide) rfl
                have e15_ : X 15 = _ := hD 15 (by decide) rfl
                refine tv rfl (by simp only [e7_, e15_]; rfl) ?_ (by exact h _ w7 rfl (Below.refl _ _))
                simp only [e7_, e15_]; go_simp <;> first | rfl | (simp only [IntWalk.i64_left]; rfl) | (simp only [IntWalk.i64_left, *]; done) | (simp only [IntWalk.i64_left, *]; rfl)
              · have e16_ : X 16 = _ := hD 16 (by decide) rfl
                refine tv rfl (by simp only [e16_]; rfl) ?_ (by exact h _ w7 rfl (Below.refl _ _))
                simp only [e16_]; go_simp <;> first | rfl | (simp only [IntWalk.i64_left]; rfl) | (simp only [IntWalk.i64_left, *]; done) | (simp only [IntWalk.i64_left, *]; rfl)
              · have e17_ : X 17 = _ := hD 17 (by decide) rfl
                have hv := v3.below (show Keep [] _ _ from hb).nil
                have c0_ := hv.at 0 rfl
                have c1_ := hv.at 1 rfl
                have c2_ := hv.at 2 rfl
                have c3_ := hv.at 3 rfl
                refine tv rfl (by simp only [e17_]; rfl) ?_ (by exact h _ w7 rfl (Below.refl _ _))
                simp only [e17_]; go_simp <;> first | rfl | (simp only [IntWalk.i64_left]; rfl) | (simp only [IntWalk.i64_left, *]; done) | (simp only [IntWalk.i64_left, *]; rfl)
              · have e17_ : X 17 = _ := hD 17 (by decide) rfl
                have hv := v4.below (show Keep [] _ _ from hb).nil
                have c0_ := hv.at 0 rfl
                have c1_ := hv.at 1 rfl
                have c2_ := hv.at 2 rfl
                have c3_ := hv.at 3 rfl
                refine tv rfl (by simp only [e17_]; rfl) ?_ (by exact h _ w7 rfl (Below.refl _ _))
                simp only [e17_]; go_simp <;> first | rfl | (simp only [IntWalk.i64_left]; rfl) | (simp only [IntWalk.i64_left, *]; done) | (simp only [IntWalk.i64_left, *]; rfl)
              · have e17_ : X 17 = _ := hD 17 (by decide) rfl
                have e18_ : X 18 = _ := hD 18 (by decide) rfl
                have e19_ : X 19 = _ := hD 19 (by decide) rfl
                refine wpOp_call (i := 20) (f := 37) (args := #[.agg #[.int .i64 p1, .int .i64 p2, .int .i64 p3, .int .i64 p4], .agg #[.int .i64 q1, .int .i64 q2, .int .i64 q3, .int .i64 q4]]) 204 rfl rfl (by simp only [e17_, e18_, e19_]; rfl) (by simp only [e17_, e18_, e19_]; go_simp) ?_
                refine (cA.out _).mono ?_
                rintro e w8 ⟨rfl, hk⟩
                exact ⟨_, rfl, h _ w8 rfl hk⟩
              · have e17_ : X 17 = _ := hD 17 (by decide) rfl
                have e20_ : X 20 = _ := hD 20 (by decide) rfl
                have f_ := hbb.out
                refine tv rfl (by simp only [e17_, e20_]; rfl) ?_ (by exact h _ w7 rfl (Below.refl _ _))
                simp only [e17_, e20_]; go_simp
                first | rfl | exact congrArg Value.bool hbb.out
              · have e17_ : X 17 = _ := hD 17 (by decide) rfl
                have hv := v3.below (show Keep [] _ _ from hb).nil
                have c0_ := hv.at 0 rfl
                have c1_ := hv.at 1 rfl
                have c2_ := hv.at 2 rfl
                have c3_ := hv.at 3 rfl
                refine tv rfl (by simp only [e17_]; rfl) ?_ (by exact h _ w7 rfl (Below.refl _ _))
                simp only [e17_]; go_simp <;> first | rfl | (simp only [IntWalk.i64_left]; rfl) | (simp only [IntWalk.i64_left, *]; done) | (simp only [IntWalk.i64_left, *]; rfl)
              · have e17_ : X 17 = _ := hD 17 (by decide) rfl
                have hv := v4.below (show Keep [] _ _ from hb).nil
                have c0_ := hv.at 0 rfl
                have c1_ := hv.at 1 rfl
                have c2_ := hv.at 2 rfl
                have c3_ := hv.at 3 rfl
                refine tv rfl (by simp only [e17_]; rfl) ?_ (by exact h _ w7 rfl (Below.refl _ _))
                simp only [e17_]; go_simp <;> first | rfl | (simp only [IntWalk.i64_left]; rfl) | (simp only [IntWalk.i64_left, *]; done) | (simp only [IntWalk.i64_left, *]; rfl)
              · have e17_ : X 17 = _ := hD 17 (by decide) rfl
                have e22_ : X 22 = _ := hD 22 (by decide) rfl
                have e23_ : X 23 = _ := hD 23 (by decide) rfl
                have f_ := hbe.out
                refine tv rfl (by simp only [e17_, e22_, e23_]; rfl) ?_ (by exact h _ w7 rfl (Below.refl _ _))
                simp only [e17_, e22_, e23_]; go_simp
                exact eqv4 (fun x => Result.ok (Next.value (Value.bool x)) w7) hbe.out
              · have e17_ : X 17 = _ := hD 17 (by decide) rfl
                have e21_ : X 21 = _ := hD 21 (by decide) rfl
                have e24_ : X 24 = _ := hD 24 (by decide) rfl
                refine tv rfl (by simp only [e17_, e21_, e24_]; rfl) ?_ (by exact h _ w7 rfl (Below.refl _ _))
                simp only [e17_, e21_, e24_]; go_simp <;> first | rfl | (simp only [IntWalk.i64_left]; rfl) | (simp only [IntWalk.i64_left, *]; done) | (simp only [IntWalk.i64_left, *]; rfl)
              · have e17_ : X 17 = _ := hD 17 (by decide) rfl
                have e25_ : X 25 = _ := hD 25 (by decide) rfl
                refine tv rfl (by simp only [e17_, e25_]; rfl) ?_ (by exact h _ w7 rfl (Below.refl _ _))
                simp only [e17_, e25_]; go_simp <;> first | rfl | (simp only [IntWalk.i64_left]; rfl) | (simp only [IntWalk.i64_left, *]; done) | (simp only [IntWalk.i64_left, *]; rfl)
            case al => exact Each.nil
            case st => exact Each.nil
            case into => exact Each.nil
            case fin =>
              intro X20_ W15 hI
              have hE : Keep [] W14 W15 := hI.keep
              have e26_ : X20_ 26 = _ := hI.fact 26 (by decide) rfl rfl
              have v3 := v3.below hE.nil
              have v4 := v4.below hE.nil
              have v6 := v6.below hE.nil
              have v7 := v7.below hE.nil
              have v8 := v8.below hE.nil
              have hv := hv.below hE.nil
              have v9 := v9.below hE.nil
              have hB := hB.trans (hE.nil.mono hB.size)
              simp only [e26_]
              clear e26_ hI hE
              by_cases hr0 : r = 0
              ·
                have hr1 : (r == 0) = true := by simpa using hr0
                clear hr0
                by_cases hc0 : 0 < c0
                ·
                  skip
                  have cb4_0 := v4.at 0 rfl
                  have cb4_1 := v4.at 1 rfl
                  have cb4_2 := v4.at 2 rfl
                  have cb4_3 := v4.at 3 rfl
                  have cb3_0 := v3.at 0 rfl
                  have cb3_1 := v3.at 1 rfl
                  have cb3_2 := v3.at 2 rfl
                  have cb3_3 := v3.at 3 rfl
                  go_wp2_with fail
                  refine (cB.out _).mono ?_
                  rintro e W16 ⟨rfl, hk⟩
                  have hs := hk
                  have v3 := v3.below hs
                  have v4 := v4.below hs
                  have v6 := v6.below hs
                  have v7 := v7.below hs
                  have v8 := v8.below hs
                  have hv := hv.below hs
                  have v9 := v9.below hs
                  have hB := hB.trans (hs.mono hB.size)
                  clear cb4_0 cb4_1 cb4_2 cb4_3 cb3_0 cb3_1 cb3_2 cb3_3 hs hk
                  go_wp2_with fail
                  have hBs := hB.size
                  go_ret
                  exact ⟨rfl, by repeat (first | exact hB | refine Below.alloc ?_ (by first | omega | (simp; try omega)) _ | refine Below.setCell ?_ (by first | omega | (simp; try omega)) _)⟩
                ·
                  skip
                  have hc1 := hle.out (by omega)
                  have cb4_0 := v4.at 0 rfl
                  have cb4_1 := v4.at 1 rfl
                  have cb4_2 := v4.at 2 rfl
                  have cb4_3 := v4.at 3 rfl
                  have cb3_0 := v3.at 0 rfl
                  have cb3_1 := v3.at 1 rfl
                  have cb3_2 := v3.at 2 rfl
                  have cb3_3 := v3.at 3 rfl
                  go_wp2_with fail
                  refine (cB.out _).mono ?_
                  rintro e W16 ⟨rfl, hk⟩
                  have hs := hk
                  have v3 := v3.below hs
                  have v4 := v4.below hs
                  have v6 := v6.below hs
                  have v7 := v7.below hs
                  have v8 := v8.below hs
                  have hv := hv.below hs
                  have v9 := v9.below hs
                  have hB := hB.trans (hs.mono hB.size)
                  clear cb4_0 cb4_1 cb4_2 cb4_3 cb3_0 cb3_1 cb3_2 cb3_3 hs hk
                  have cb4_0 := v4.at 0 rfl
                  have cb4_1 := v4.at 1 rfl
                  have cb4_2 := v4.at 2 rfl
                  have cb4_3 := v4.at 3 rfl
                  have cb7_0 := v7.at 0 rfl
                  have cb7_1 := v7.at 1 rfl
                  have cb7_2 := v7.at 2 rfl
                  have cb7_3 := v7.at 3 rfl
                  go_wp2_with fail
                  refine (cE.out _).mono ?_
                  rintro e W17 ⟨rfl, hk⟩
                  have hs := hk
                  have v3 := v3.below hs
                  have v4 := v4.below hs
                  have v6 := v6.below hs
                  have v7 := v7.below hs
                  have v8 := v8.below hs
                  have hv := hv.below hs
                  have v9 := v9.below hs
                  have hB := hB.trans (hs.mono hB.size)
                  clear cb4_0 cb4_1 cb4_2 cb4_3 cb7_0 cb7_1 cb7_2 cb7_3 hs hk
                  go_wp2_with fail
                  have hBs := hB.size
                  go_ret
                  exact ⟨rfl, by repeat (first | exact hB | refine Below.alloc ?_ (by first | omega | (simp; try omega)) _ | refine Below.setCell ?_ (by first | omega | (simp; try omega)) _)⟩
              ·
                have cC := cC.out (by omega)
                have hr1 : (r == 0) = false := by simpa using hr0
                by_cases hc0 : 0 < c0
                ·
                  skip
                  have cb3_0 := v3.at 0 rfl
                  have cb3_1 := v3.at 1 rfl
                  have cb3_2 := v3.at 2 rfl
                  have cb3_3 := v3.at 3 rfl
                  have cb7_0 := v7.at 0 rfl
                  have cb7_1 := v7.at 1 rfl
                  have cb7_2 := v7.at 2 rfl
                  have cb7_3 := v7.at 3 rfl
                  go_wp2_with fail
                  refine (cC.out _).mono ?_
                  rintro e W16 ⟨rfl, hk⟩
                  have hs := hk
                  have v3 := v3.below hs
                  have v4 := v4.below hs
                  have v6 := v6.below hs
                  have v7 := v7.below hs
                  have v8 := v8.below hs
                  have hv := hv.below hs
                  have v9 := v9.below hs
                  have hB := hB.trans (hs.mono hB.size)
                  clear cb3_0 cb3_1 cb3_2 cb3_3 cb7_0 cb7_1 cb7_2 cb7_3 hs hk
                  have cb4_0 := v4.at 0 rfl
                  have cb4_1 := v4.at 1 rfl
                  have cb4_2 := v4.at 2 rfl
                  have cb4_3 := v4.at 3 rfl
                  have cb3_0 := v3.at 0 rfl
                  have cb3_1 := v3.at 1 rfl
                  have cb3_2 := v3.at 2 rfl
                  have cb3_3 := v3.at 3 rfl
                  go_wp2_with fail
                  refine (cB.out _).mono ?_
                  rintro e W17 ⟨rfl, hk⟩
                  have hs := hk
                  have v3 := v3.below hs
                  have v4 := v4.below hs
                  have v6 := v6.below hs
                  have v7 := v7.below hs
                  have v8 := v8.below hs
                  have hv := hv.below hs
                  have v9 := v9.below hs
                  have hB := hB.trans (hs.mono hB.size)
                  clear cb4_0 cb4_1 cb4_2 cb4_3 cb3_0 cb3_1 cb3_2 cb3_3 hs hk
                  go_wp2_with fail
                  have hBs := hB.size
                  go_ret
                  exact ⟨rfl, by repeat (first | exact hB | refine Below.alloc ?_ (by first | omega | (simp; try omega)) _ | refine Below.setCell ?_ (by first | omega | (simp; try omega)) _)⟩
                ·
                  skip
                  have hc1 := hle.out (by omega)
                  have cb3_0 := v3.at 0 rfl
                  have cb3_1 := v3.at 1 rfl
                  have cb3_2 := v3.at 2 rfl
                  have cb3_3 := v3.at 3 rfl
                  have cb7_0 := v7.at 0 rfl
                  have cb7_1 := v7.at 1 rfl
                  have cb7_2 := v7.at 2 rfl
                  have cb7_3 := v7.at 3 rfl
                  go_wp2_with fail
                  refine (cC.out _).mono ?_
                  rintro e W16 ⟨rfl, hk⟩
                  have hs := hk
                  have v3 := v3.below hs
                  have v4 := v4.below hs
                  have v6 := v6.below hs
                  have v7 := v7.below hs
                  have v8 := v8.below hs
                  have hv := hv.below hs
                  have v9 := v9.below hs
                  have hB := hB.trans (hs.mono hB.size)
                  clear cb3_0 cb3_1 cb3_2 cb3_3 cb7_0 cb7_1 cb7_2 cb7_3 hs hk
                  have cb4_0 := v4.at 0 rfl
                  have cb4_1 := v4.at 1 rfl
                  have cb4_2 := v4.at 2 rfl
                  have cb4_3 := v4.at 3 rfl
                  have cb3_0 := v3.at 0 rfl
                  have cb3_1 := v3.at 1 rfl
                  have cb3_2 := v3.at 2 rfl
                  have cb3_3 := v3.at 3 rfl
                  go_wp2_with fail
                  refine (cB.out _).mono ?_
                  rintro e W17 ⟨rfl, hk⟩
                  have hs := hk
                  have v3 := v3.below hs
                  have v4 := v4.below hs
                  have v6 := v6.below hs
                  have v7 := v7.below hs
                  have v8 := v8.below hs
                  have hv := hv.below hs
                  have v9 := v9.below hs
                  have hB := hB.trans (hs.mono hB.size)
                  clear cb4_0 cb4_1 cb4_2 cb4_3 cb3_0 cb3_1 cb3_2 cb3_3 hs hk
                  have cb4_0 := v4.at 0 rfl
                  have cb4_1 := v4.at 1 rfl
                  have cb4_2 := v4.at 2 rfl
                  have cb4_3 := v4.at 3 rfl
                  have cb7_0 := v7.at 0 rfl
                  have cb7_1 := v7.at 1 rfl
                  have cb7_2 := v7.at 2 rfl
                  have cb7_3 := v7.at 3 rfl
                  go_wp2_with fail
                  refine (cE.out _).mono ?_
                  rintro e W18 ⟨rfl, hk⟩
                  have hs := hk
                  have v3 := v3.below hs
                  have v4 := v4.below hs
                  have v6 := v6.below hs
                  have v7 := v7.below hs
                  have v8 := v8.below hs
                  have hv := hv.below hs
                  have v9 := v9.below hs
                  have hB := hB.trans (hs.mono hB.size)
                  clear cb4_0 cb4_1 cb4_2 cb4_3 cb7_0 cb7_1 cb7_2 cb7_3 hs hk
                  go_wp2_with fail
                  have hBs := hB.size
                  go_ret
                  exact ⟨rfl, by repeat (first | exact hB | refine Below.alloc ?_ (by first | omega | (simp; try omega)) _ | refine Below.setCell ?_ (by first | omega | (simp; try omega)) _)⟩
end Go.Proofs.Ytblnpelbklfloaa
