/- What Apply, Back and After give of valid frames. -/
import Derived.Test.YtjeenfnfkndgaaaZZ
import Derived.Test.YtjeenfnfkndgaaaUY
import Derived.Test.YtjeenfnfkndgaaaRows
namespace Go.Proofs.Ytjeenfnfkndgaaa
open Go Go.Sz Go.RowKit

theorem tn_2 : Int.toNat 2 = 2 := rfl
theorem tn_3 : Int.toNat 3 = 3 := rfl
theorem tn_4 : Int.toNat 4 = 4 := rfl
theorem tn_5 : Int.toNat 5 = 5 := rfl
theorem tn_6 : Int.toNat 6 = 6 := rfl
theorem tn_7 : Int.toNat 7 = 7 := rfl
theorem tn_8 : Int.toNat 8 = 8 := rfl
theorem tn_9 : Int.toNat 9 = 9 := rfl
theorem tn_10 : Int.toNat 10 = 10 := rfl
theorem tn_11 : Int.toNat 11 = 11 := rfl
theorem tn_12 : Int.toNat 12 = 12 := rfl
theorem tn_13 : Int.toNat 13 = 13 := rfl
theorem tn_14 : Int.toNat 14 = 14 := rfl
theorem tn_15 : Int.toNat 15 = 15 := rfl
theorem tn_16 : Int.toNat 16 = 16 := rfl
theorem tn_17 : Int.toNat 17 = 17 := rfl
theorem tn_18 : Int.toNat 18 = 18 := rfl
theorem tn_19 : Int.toNat 19 = 19 := rfl
theorem tn_20 : Int.toNat 20 = 20 := rfl
theorem tn_21 : Int.toNat 21 = 21 := rfl
theorem tn_22 : Int.toNat 22 = 22 := rfl
theorem tn_23 : Int.toNat 23 = 23 := rfl
theorem tn_24 : Int.toNat 24 = 24 := rfl
theorem tn_25 : Int.toNat 25 = 25 := rfl
theorem tn_26 : Int.toNat 26 = 26 := rfl
theorem gk_0 (a t : D) : (D.cons a t).get 0 = a := rfl
theorem gk_1 (a t : D) : (D.cons a t).get 1 = t.get 0 := rfl
theorem gk_2 (a t : D) : (D.cons a t).get 2 = t.get 1 := rfl
theorem gk_3 (a t : D) : (D.cons a t).get 3 = t.get 2 := rfl
theorem gk_4 (a t : D) : (D.cons a t).get 4 = t.get 3 := rfl
theorem gk_5 (a t : D) : (D.cons a t).get 5 = t.get 4 := rfl
theorem gk_6 (a t : D) : (D.cons a t).get 6 = t.get 5 := rfl
theorem gk_7 (a t : D) : (D.cons a t).get 7 = t.get 6 := rfl
theorem gk_8 (a t : D) : (D.cons a t).get 8 = t.get 7 := rfl
theorem gk_9 (a t : D) : (D.cons a t).get 9 = t.get 8 := rfl
theorem gk_10 (a t : D) : (D.cons a t).get 10 = t.get 9 := rfl
theorem gk_11 (a t : D) : (D.cons a t).get 11 = t.get 10 := rfl
theorem gk_12 (a t : D) : (D.cons a t).get 12 = t.get 11 := rfl
theorem gk_13 (a t : D) : (D.cons a t).get 13 = t.get 12 := rfl
theorem gk_14 (a t : D) : (D.cons a t).get 14 = t.get 13 := rfl
theorem gk_15 (a t : D) : (D.cons a t).get 15 = t.get 14 := rfl
theorem gk_16 (a t : D) : (D.cons a t).get 16 = t.get 15 := rfl
theorem gk_17 (a t : D) : (D.cons a t).get 17 = t.get 16 := rfl
theorem gk_18 (a t : D) : (D.cons a t).get 18 = t.get 17 := rfl
theorem gk_19 (a t : D) : (D.cons a t).get 19 = t.get 18 := rfl
theorem gk_20 (a t : D) : (D.cons a t).get 20 = t.get 19 := rfl
theorem gk_21 (a t : D) : (D.cons a t).get 21 = t.get 20 := rfl
theorem gk_22 (a t : D) : (D.cons a t).get 22 = t.get 21 := rfl
theorem gk_23 (a t : D) : (D.cons a t).get 23 = t.get 22 := rfl
theorem gk_24 (a t : D) : (D.cons a t).get 24 = t.get 23 := rfl
theorem gk_25 (a t : D) : (D.cons a t).get 25 = t.get 24 := rfl
theorem gk_26 (a t : D) : (D.cons a t).get 26 = t.get 25 := rfl
def dt (f v : D) (i : Nat) : Int := (f.get (3 * i)).int * (v.get 0).int + (f.get (3 * i + 1)).int * (v.get 1).int + (f.get (3 * i + 2)).int * (v.get 2).int
def dtT (f v : D) (i : Nat) : Int := (f.get i).int * (v.get 0).int + (f.get (3 + i)).int * (v.get 1).int + (f.get (6 + i)).int * (v.get 2).int
def VF (T : Tab) (f : D) : Prop := ((T 20 (D.seg 13 f 0)).get 0).bool = true
theorem tdiv_w {u d : Int} (h0 : -7200 ≤ u) (h1 : u ≤ 7200) : IntKind.i64.wrap (u.tdiv d) = u.tdiv d ∧ -7200 ≤ u.tdiv d ∧ u.tdiv d ≤ 7200 := by
  have hb : (u.tdiv d).natAbs ≤ u.natAbs := by rw [Int.natAbs_tdiv]; exact Nat.div_le_self _ _
  rw [w64 (by omega) (by omega)]; exact ⟨rfl, by omega, by omega⟩
theorem inB {a : Int} : (!(ltB a (-24) || ltB 24 a)) = true ↔ -24 ≤ a ∧ a ≤ 24 := by
  simp only [not_t, or_f, lt_f]
theorem lf {a b : Int} (h : b ≤ a) : ltB a b = false := by rw [lt_f]; exact h
section
variable {T : Tab} (hF : Fs.ok F17 T)
include hF
set_option maxRecDepth 100000 in
theorem apply_ok {f v : D} (hv : VF T f) (hi : ∀ i, i < 3 → -24 ≤ (v.get i).int ∧ (v.get i).int ≤ 24) (q : Nat → Int) (hq : ∀ i, i < 3 → dt f v i = (f.get 9).int * q i) (ho : ∀ i, i < 3 → -24 ≤ q i + (f.get (10 + i)).int ∧ q i + (f.get (10 + i)).int ≤ 24) :
    T 8 (D.app (D.seg 13 f 0) (D.seg 3 v 0)) = .cons (.i (q 0 + (f.get 10).int)) (.cons (.i (q 1 + (f.get 11).int)) (.cons (.i (q 2 + (f.get 12).int)) (.cons (.b true) .nil))) := by
  have h8 : T 8 = fnOf F8 turn_Apply_w_x := hF.tail.tail.tail.tail.tail.tail.tail.tail.top
  have h6 : T 6 = fnOf F5 turn_sent_x := hF.tail.tail.tail.tail.tail.tail.tail.tail.tail.tail.tail.top
  have e20 : tabF F8 20 = T 20 := (tabF_eq hF.tail.tail.tail.tail.tail.tail.tail.tail.tail (by kernel_rfl)).symm
  have e6 : tabF F8 6 = T 6 := (tabF_eq hF.tail.tail.tail.tail.tail.tail.tail.tail.tail (by kernel_rfl)).symm
  have hv' : ((T 20 (.cons (f.get 0) (.cons (f.get 1) (.cons (f.get 2) (.cons (f.get 3) (.cons (f.get 4) (.cons (f.get 5) (.cons (f.get 6) (.cons (f.get 7) (.cons (f.get 8) (.cons (f.get 9) (.cons (f.get 10) (.cons (f.get 11) (.cons (f.get 12) .nil)))))))))))))).get 0).bool = true := hv
  have m0 : -25 ≤ (f.get 0).int ∧ (f.get 0).int ≤ 25 := frame_m hF.tail.tail.tail.tail.tail.tail.tail.tail.tail hv 0 (by decide)
  have m1 : -25 ≤ (f.get 1).int ∧ (f.get 1).int ≤ 25 := frame_m hF.tail.tail.tail.tail.tail.tail.tail.tail.tail hv 1 (by decide)
  have m2 : -25 ≤ (f.get 2).int ∧ (f.get 2).int ≤ 25 := frame_m hF.tail.tail.tail.tail.tail.tail.tail.tail.tail hv 2 (by decide)
  have m3 : -25 ≤ (f.get 3).int ∧ (f.get 3).int ≤ 25 := frame_m hF.tail.tail.tail.tail.tail.tail.tail.tail.tail hv 3 (by decide)
  have m4 : -25 ≤ (f.get 4).int ∧ (f.get 4).int ≤ 25 := frame_m hF.tail.tail.tail.tail.tail.tail.tail.tail.tail hv 4 (by decide)
  have m5 : -25 ≤ (f.get 5).int ∧ (f.get 5).int ≤ 25 := frame_m hF.tail.tail.tail.tail.tail.tail.tail.tail.tail hv 5 (by decide)
  have m6 : -25 ≤ (f.get 6).int ∧ (f.get 6).int ≤ 25 := frame_m hF.tail.tail.tail.tail.tail.tail.tail.tail.tail hv 6 (by decide)
  have m7 : -25 ≤ (f.get 7).int ∧ (f.get 7).int ≤ 25 := frame_m hF.tail.tail.tail.tail.tail.tail.tail.tail.tail hv 7 (by decide)
  have m8 : -25 ≤ (f.get 8).int ∧ (f.get 8).int ≤ 25 := frame_m hF.tail.tail.tail.tail.tail.tail.tail.tail.tail hv 8 (by decide)
  have dd : 1 ≤ (f.get 9).int ∧ (f.get 9).int ≤ 25 := ⟨(frame_b hF.tail.tail.tail.tail.tail.tail.tail.tail.tail hv).1, (frame_b hF.tail.tail.tail.tail.tail.tail.tail.tail.tail hv).2.1⟩
  have s0 : -96 ≤ (f.get 10).int ∧ (f.get 10).int ≤ 96 := (frame_b hF.tail.tail.tail.tail.tail.tail.tail.tail.tail hv).2.2.2 0 (by decide)
  have s1 : -96 ≤ (f.get 11).int ∧ (f.get 11).int ≤ 96 := (frame_b hF.tail.tail.tail.tail.tail.tail.tail.tail.tail hv).2.2.2 1 (by decide)
  have s2 : -96 ≤ (f.get 12).int ∧ (f.get 12).int ≤ 96 := (frame_b hF.tail.tail.tail.tail.tail.tail.tail.tail.tail hv).2.2.2 2 (by decide)
  have v0 := hi 0 (by decide)
  have v1 := hi 1 (by decide)
  have v2 := hi 2 (by decide)
  have o0 : -24 ≤ q 0 + (f.get 10).int ∧ q 0 + (f.get 10).int ≤ 24 := ho 0 (by decide)
  have o1 : -24 ≤ q 1 + (f.get 11).int ∧ q 1 + (f.get 11).int ≤ 24 := ho 1 (by decide)
  have o2 : -24 ≤ q 2 + (f.get 12).int ∧ q 2 + (f.get 12).int ≤ 24 := ho 2 (by decide)
  have d0 := dot_in m0.1 m0.2 (show -96 ≤ (v.get 0).int by omega) (by omega) m1.1 m1.2 (show -96 ≤ (v.get 1).int by omega) (by omega) m2.1 m2.2 (show -96 ≤ (v.get 2).int by omega) (by omega)
  have d1 := dot_in m3.1 m3.2 (show -96 ≤ (v.get 0).int by omega) (by omega) m4.1 m4.2 (show -96 ≤ (v.get 1).int by omega) (by omega) m5.1 m5.2 (show -96 ≤ (v.get 2).int by omega) (by omega)
  have d2 := dot_in m6.1 m6.2 (show -96 ≤ (v.get 0).int by omega) (by omega) m7.1 m7.2 (show -96 ≤ (v.get 1).int by omega) (by omega) m8.1 m8.2 (show -96 ≤ (v.get 2).int by omega) (by omega)
  have e0 : D.int (D.get f 0) * D.int (D.get v 0) + D.int (D.get f 1) * D.int (D.get v 1) + D.int (D.get f 2) * D.int (D.get v 2) = D.int (D.get f 9) * q 0 := hq 0 (by decide)
  have e1 : D.int (D.get f 3) * D.int (D.get v 0) + D.int (D.get f 4) * D.int (D.get v 1) + D.int (D.get f 5) * D.int (D.get v 2) = D.int (D.get f 9) * q 1 := hq 1 (by decide)
  have e2 : D.int (D.get f 6) * D.int (D.get v 0) + D.int (D.get f 7) * D.int (D.get v 1) + D.int (D.get f 8) * D.int (D.get v 2) = D.int (D.get f 9) * q 2 := hq 2 (by decide)
  have c : ∀ x : Int, ((f.get 9).int * x).tdiv (f.get 9).int = x := fun x => Int.mul_tdiv_cancel_left x (by omega)
  have z : ∀ x : Int, ((f.get 9).int * x).tmod (f.get 9).int = 0 := fun x => Int.mul_tmod_right _ _
  rw [h8, fnOf_eq]
  simp only [turn_Apply_w_x, turn_Apply_w_n_q0, turn_Apply_w_n_q1, turn_Apply_w_n_q2, List.map_cons, List.map_nil, D.of, X.d, den1, den3, den_lt, den_and, den_or, den_cons, den_get, int_i, bool_b, D.get, Int.toNat_zero, Int.toNat_one, Nat.reduceAdd, envD, D.seg, D.app, e20, e6, sent_d h6, hv', d0.1, d1.1, d2.1, e0, e1, e2, c, z, w64 (n := q 0) (by omega) (by omega), w64 (n := q 1) (by omega) (by omega), w64 (n := q 2) (by omega) (by omega), w64 (n := q 0 + (f.get 10).int) (by omega) (by omega), w64 (n := q 1 + (f.get 11).int) (by omega) (by omega), w64 (n := q 2 + (f.get 12).int) (by omega) (by omega), inB.2 v0, inB.2 v1, inB.2 v2, inB.2 o0, inB.2 o1]
  simp [eqB, D.get, lf o2.1, lf o2.2]
set_option maxRecDepth 100000 in
theorem apply_inv {f v : D} (h : ((T 8 (D.app (D.seg 13 f 0) (D.seg 3 v 0))).get 3).bool = true) : VF T f ∧ (∀ i, i < 3 → -24 ≤ (v.get i).int ∧ (v.get i).int ≤ 24) ∧ ∃ q : Nat → Int, (∀ i, i < 3 → dt f v i = (f.get 9).int * q i) ∧ ∀ i, i < 3 → -24 ≤ q i + (f.get (10 + i)).int ∧ q i + (f.get (10 + i)).int ≤ 24 := by
  have h8 : T 8 = fnOf F8 turn_Apply_w_x := hF.tail.tail.tail.tail.tail.tail.tail.tail.top
  have h6 : T 6 = fnOf F5 turn_sent_x := hF.tail.tail.tail.tail.tail.tail.tail.tail.tail.tail.tail.top
  have e20 : tabF F8 20 = T 20 := (tabF_eq hF.tail.tail.tail.tail.tail.tail.tail.tail.tail (by kernel_rfl)).symm
  have e6 : tabF F8 6 = T 6 := (tabF_eq hF.tail.tail.tail.tail.tail.tail.tail.tail.tail (by kernel_rfl)).symm
  rw [h8, fnOf_eq] at h
  simp only [turn_Apply_w_x, turn_Apply_w_n_q0, turn_Apply_w_n_q1, turn_Apply_w_n_q2, List.map_cons, List.map_nil, D.of, X.d, den1, den3, den_lt, den_and, den_or, den_cons, den_get, int_i, bool_b, D.get, Int.toNat_zero, Int.toNat_one, Nat.reduceAdd, envD, D.seg, D.app, e20, e6, sent_d h6] at h
  simp only [tn_2, tn_3, gk_0, gk_1, gk_2, gk_3, int_i, bool_b, and_t, or_f, not_t, not_f, lt_f, eq_t] at h
  obtain ⟨⟨hv, v0, v1, v2⟩, ⟨z0, z1, z2⟩, o0, o1, o2⟩ := h
  have hv : VF T f := hv
  have m0 : -25 ≤ (f.get 0).int ∧ (f.get 0).int ≤ 25 := frame_m hF.tail.tail.tail.tail.tail.tail.tail.tail.tail hv 0 (by decide)
  have m1 : -25 ≤ (f.get 1).int ∧ (f.get 1).int ≤ 25 := frame_m hF.tail.tail.tail.tail.tail.tail.tail.tail.tail hv 1 (by decide)
  have m2 : -25 ≤ (f.get 2).int ∧ (f.get 2).int ≤ 25 := frame_m hF.tail.tail.tail.tail.tail.tail.tail.tail.tail hv 2 (by decide)
  have m3 : -25 ≤ (f.get 3).int ∧ (f.get 3).int ≤ 25 := frame_m hF.tail.tail.tail.tail.tail.tail.tail.tail.tail hv 3 (by decide)
  have m4 : -25 ≤ (f.get 4).int ∧ (f.get 4).int ≤ 25 := frame_m hF.tail.tail.tail.tail.tail.tail.tail.tail.tail hv 4 (by decide)
  have m5 : -25 ≤ (f.get 5).int ∧ (f.get 5).int ≤ 25 := frame_m hF.tail.tail.tail.tail.tail.tail.tail.tail.tail hv 5 (by decide)
  have m6 : -25 ≤ (f.get 6).int ∧ (f.get 6).int ≤ 25 := frame_m hF.tail.tail.tail.tail.tail.tail.tail.tail.tail hv 6 (by decide)
  have m7 : -25 ≤ (f.get 7).int ∧ (f.get 7).int ≤ 25 := frame_m hF.tail.tail.tail.tail.tail.tail.tail.tail.tail hv 7 (by decide)
  have m8 : -25 ≤ (f.get 8).int ∧ (f.get 8).int ≤ 25 := frame_m hF.tail.tail.tail.tail.tail.tail.tail.tail.tail hv 8 (by decide)
  have dd : 1 ≤ (f.get 9).int ∧ (f.get 9).int ≤ 25 := ⟨(frame_b hF.tail.tail.tail.tail.tail.tail.tail.tail.tail hv).1, (frame_b hF.tail.tail.tail.tail.tail.tail.tail.tail.tail hv).2.1⟩
  have s0 : -96 ≤ (f.get 10).int ∧ (f.get 10).int ≤ 96 := (frame_b hF.tail.tail.tail.tail.tail.tail.tail.tail.tail hv).2.2.2 0 (by decide)
  have s1 : -96 ≤ (f.get 11).int ∧ (f.get 11).int ≤ 96 := (frame_b hF.tail.tail.tail.tail.tail.tail.tail.tail.tail hv).2.2.2 1 (by decide)
  have s2 : -96 ≤ (f.get 12).int ∧ (f.get 12).int ≤ 96 := (frame_b hF.tail.tail.tail.tail.tail.tail.tail.tail.tail hv).2.2.2 2 (by decide)
  have d0 := dot_in m0.1 m0.2 (show -96 ≤ (v.get 0).int by omega) (by omega) m1.1 m1.2 (show -96 ≤ (v.get 1).int by omega) (by omega) m2.1 m2.2 (show -96 ≤ (v.get 2).int by omega) (by omega)
  have d1 := dot_in m3.1 m3.2 (show -96 ≤ (v.get 0).int by omega) (by omega) m4.1 m4.2 (show -96 ≤ (v.get 1).int by omega) (by omega) m5.1 m5.2 (show -96 ≤ (v.get 2).int by omega) (by omega)
  have d2 := dot_in m6.1 m6.2 (show -96 ≤ (v.get 0).int by omega) (by omega) m7.1 m7.2 (show -96 ≤ (v.get 1).int by omega) (by omega) m8.1 m8.2 (show -96 ≤ (v.get 2).int by omega) (by omega)
  rw [d0.1] at z0 o0
  rw [d1.1] at z1 o1
  rw [d2.1] at z2 o2
  have t0 := tdiv_w (d := (f.get 9).int) d0.2.1 d0.2.2
  have t1 := tdiv_w (d := (f.get 9).int) d1.2.1 d1.2.2
  have t2 := tdiv_w (d := (f.get 9).int) d2.2.1 d2.2.2
  rw [t0.1, w64 (by omega) (by omega)] at o0
  rw [t1.1, w64 (by omega) (by omega)] at o1
  rw [t2.1, w64 (by omega) (by omega)] at o2
  refine ⟨hv, fun i hi => ?_, fun i => (dt f v i).tdiv (f.get 9).int, fun i hi => ?_, fun i hi => ?_⟩
  · have : i = 0 ∨ i = 1 ∨ i = 2 := by omega
    rcases this with rfl | rfl | rfl
    · exact v0
    · exact v1
    · exact v2
  · have : i = 0 ∨ i = 1 ∨ i = 2 := by omega
    rcases this with rfl | rfl | rfl
    · exact (Int.mul_tdiv_cancel' (Int.dvd_of_tmod_eq_zero z0)).symm
    · exact (Int.mul_tdiv_cancel' (Int.dvd_of_tmod_eq_zero z1)).symm
    · exact (Int.mul_tdiv_cancel' (Int.dvd_of_tmod_eq_zero z2)).symm
  · have : i = 0 ∨ i = 1 ∨ i = 2 := by omega
    rcases this with rfl | rfl | rfl
    · exact o0
    · exact o1
    · exact o2
end
theorem tdiv_neg_w' {u d : Int} (h0 : -7200 ≤ u) (h1 : u ≤ 7200) : IntKind.i64.wrap (IntKind.i64.wrap ((-u).tdiv d) + 0) = -(u.tdiv d) := by
  have := (tdiv_w (d := d) h0 h1).2
  rw [Int.neg_tdiv, w64 (n := -u.tdiv d) (by omega) (by omega), w64 (by omega) (by omega)]
  omega
def dtS (f : D) (i : Nat) : Int := (f.get i).int * (f.get 10).int + (f.get (3 + i)).int * (f.get 11).int + (f.get (6 + i)).int * (f.get 12).int
def bk (f : D) (r : Nat → Int) : D := (.cons (f.get 0) (.cons (f.get 3) (.cons (f.get 6) (.cons (f.get 1) (.cons (f.get 4) (.cons (f.get 7) (.cons (f.get 2) (.cons (f.get 5) (.cons (f.get 8) (.cons (f.get 9) (.cons (.i (-(r 0))) (.cons (.i (-(r 1))) (.cons (.i (-(r 2))) .nil)))))))))))))
section
variable {T : Tab} (hF : Fs.ok F17 T)
include hF
set_option maxRecDepth 100000 in
theorem back_ok {f : D} (hv : VF T f) (r : Nat → Int) (hr : ∀ i, i < 3 → dtS f i = (f.get 9).int * r i) (hb : VF T (bk f r)) : T 10 (D.seg 13 f 0) = (bk f r).app (.cons (.b true) .nil) := by
  have h10 : T 10 = fnOf F9 turn_Back_w_x := hF.tail.tail.tail.tail.tail.tail.tail.top
  have h6 : T 6 = fnOf F5 turn_sent_x := hF.tail.tail.tail.tail.tail.tail.tail.tail.tail.tail.tail.top
  have e20 : tabF F9 20 = T 20 := (tabF_eq hF.tail.tail.tail.tail.tail.tail.tail.tail (by kernel_rfl)).symm
  have e6 : tabF F9 6 = T 6 := (tabF_eq hF.tail.tail.tail.tail.tail.tail.tail.tail (by kernel_rfl)).symm
  have m0 : -25 ≤ (f.get 0).int ∧ (f.get 0).int ≤ 25 := frame_m hF.tail.tail.tail.tail.tail.tail.tail.tail.tail hv 0 (by decide)
  have m1 : -25 ≤ (f.get 1).int ∧ (f.get 1).int ≤ 25 := frame_m hF.tail.tail.tail.tail.tail.tail.tail.tail.tail hv 1 (by decide)
  have m2 : -25 ≤ (f.get 2).int ∧ (f.get 2).int ≤ 25 := frame_m hF.tail.tail.tail.tail.tail.tail.tail.tail.tail hv 2 (by decide)
  have m3 : -25 ≤ (f.get 3).int ∧ (f.get 3).int ≤ 25 := frame_m hF.tail.tail.tail.tail.tail.tail.tail.tail.tail hv 3 (by decide)
  have m4 : -25 ≤ (f.get 4).int ∧ (f.get 4).int ≤ 25 := frame_m hF.tail.tail.tail.tail.tail.tail.tail.tail.tail hv 4 (by decide)
  have m5 : -25 ≤ (f.get 5).int ∧ (f.get 5).int ≤ 25 := frame_m hF.tail.tail.tail.tail.tail.tail.tail.tail.tail hv 5 (by decide)
  have m6 : -25 ≤ (f.get 6).int ∧ (f.get 6).int ≤ 25 := frame_m hF.tail.tail.tail.tail.tail.tail.tail.tail.tail hv 6 (by decide)
  have m7 : -25 ≤ (f.get 7).int ∧ (f.get 7).int ≤ 25 := frame_m hF.tail.tail.tail.tail.tail.tail.tail.tail.tail hv 7 (by decide)
  have m8 : -25 ≤ (f.get 8).int ∧ (f.get 8).int ≤ 25 := frame_m hF.tail.tail.tail.tail.tail.tail.tail.tail.tail hv 8 (by decide)
  have dd : 1 ≤ (f.get 9).int ∧ (f.get 9).int ≤ 25 := ⟨(frame_b hF.tail.tail.tail.tail.tail.tail.tail.tail.tail hv).1, (frame_b hF.tail.tail.tail.tail.tail.tail.tail.tail.tail hv).2.1⟩
  have s0 : -96 ≤ (f.get 10).int ∧ (f.get 10).int ≤ 96 := (frame_b hF.tail.tail.tail.tail.tail.tail.tail.tail.tail hv).2.2.2 0 (by decide)
  have s1 : -96 ≤ (f.get 11).int ∧ (f.get 11).int ≤ 96 := (frame_b hF.tail.tail.tail.tail.tail.tail.tail.tail.tail hv).2.2.2 1 (by decide)
  have s2 : -96 ≤ (f.get 12).int ∧ (f.get 12).int ≤ 96 := (frame_b hF.tail.tail.tail.tail.tail.tail.tail.tail.tail hv).2.2.2 2 (by decide)
  have n0 : IntKind.i64.wrap (0 - (f.get 10).int) = -(f.get 10).int := by rw [w64 (by omega) (by omega)]; omega
  have p0 := dot_in m0.1 m0.2 s0.1 s0.2 m3.1 m3.2 s1.1 s1.2 m6.1 m6.2 s2.1 s2.2
  have r0 := (dot_in m0.1 m0.2 (show -96 ≤ -(f.get 10).int by omega) (show -(f.get 10).int ≤ 96 by omega) m3.1 m3.2 (show -96 ≤ -(f.get 11).int by omega) (show -(f.get 11).int ≤ 96 by omega) m6.1 m6.2 (show -96 ≤ -(f.get 12).int by omega) (show -(f.get 12).int ≤ 96 by omega)).1
  rw [dot_neg] at r0
  have n1 : IntKind.i64.wrap (0 - (f.get 11).int) = -(f.get 11).int := by rw [w64 (by omega) (by omega)]; omega
  have p1 := dot_in m1.1 m1.2 s0.1 s0.2 m4.1 m4.2 s1.1 s1.2 m7.1 m7.2 s2.1 s2.2
  have r1 := (dot_in m1.1 m1.2 (show -96 ≤ -(f.get 10).int by omega) (show -(f.get 10).int ≤ 96 by omega) m4.1 m4.2 (show -96 ≤ -(f.get 11).int by omega) (show -(f.get 11).int ≤ 96 by omega) m7.1 m7.2 (show -96 ≤ -(f.get 12).int by omega) (show -(f.get 12).int ≤ 96 by omega)).1
  rw [dot_neg] at r1
  have n2 : IntKind.i64.wrap (0 - (f.get 12).int) = -(f.get 12).int := by rw [w64 (by omega) (by omega)]; omega
  have p2 := dot_in m2.1 m2.2 s0.1 s0.2 m5.1 m5.2 s1.1 s1.2 m8.1 m8.2 s2.1 s2.2
  have r2 := (dot_in m2.1 m2.2 (show -96 ≤ -(f.get 10).int by omega) (show -(f.get 10).int ≤ 96 by omega) m5.1 m5.2 (show -96 ≤ -(f.get 11).int by omega) (show -(f.get 11).int ≤ 96 by omega) m8.1 m8.2 (show -96 ≤ -(f.get 12).int by omega) (show -(f.get 12).int ≤ 96 by omega)).1
  rw [dot_neg] at r2
  have e0 : D.int (D.get f 0) * D.int (D.get f 10) + D.int (D.get f 3) * D.int (D.get f 11) + D.int (D.get f 6) * D.int (D.get f 12) = D.int (D.get f 9) * r 0 := hr 0 (by decide)
  have e1 : D.int (D.get f 1) * D.int (D.get f 10) + D.int (D.get f 4) * D.int (D.get f 11) + D.int (D.get f 7) * D.int (D.get f 12) = D.int (D.get f 9) * r 1 := hr 1 (by decide)
  have e2 : D.int (D.get f 2) * D.int (D.get f 10) + D.int (D.get f 5) * D.int (D.get f 11) + D.int (D.get f 8) * D.int (D.get f 12) = D.int (D.get f 9) * r 2 := hr 2 (by decide)
  rw [e0] at p0 r0
  rw [e1] at p1 r1
  rw [e2] at p2 r2
  have c : ∀ x : Int, ((f.get 9).int * x).tdiv (f.get 9).int = x := fun x => Int.mul_tdiv_cancel_left x (by omega)
  have z : ∀ x : Int, ((f.get 9).int * x).tmod (f.get 9).int = 0 := fun x => Int.mul_tmod_right _ _
  have t0 := (tdiv_w (d := (f.get 9).int) p0.2.1 p0.2.2).2
  have t1 := (tdiv_w (d := (f.get 9).int) p1.2.1 p1.2.2).2
  have t2 := (tdiv_w (d := (f.get 9).int) p2.2.1 p2.2.2).2
  rw [c] at t0 t1 t2
  have hv' : ((T 20 (.cons (f.get 0) (.cons (f.get 1) (.cons (f.get 2) (.cons (f.get 3) (.cons (f.get 4) (.cons (f.get 5) (.cons (f.get 6) (.cons (f.get 7) (.cons (f.get 8) (.cons (f.get 9) (.cons (f.get 10) (.cons (f.get 11) (.cons (f.get 12) .nil)))))))))))))).get 0).bool = true := hv
  have hb' : ((T 20 (.cons (f.get 0) (.cons (f.get 3) (.cons (f.get 6) (.cons (f.get 1) (.cons (f.get 4) (.cons (f.get 7) (.cons (f.get 2) (.cons (f.get 5) (.cons (f.get 8) (.cons (f.get 9) (.cons (.i (-(r 0))) (.cons (.i (-(r 1))) (.cons (.i (-(r 2))) .nil)))))))))))))).get 0).bool = true := hb
  have y0 : IntKind.i64.wrap (-r 0) = -r 0 := w64 (by omega) (by omega)
  have y1 : IntKind.i64.wrap (-r 1) = -r 1 := w64 (by omega) (by omega)
  have y2 : IntKind.i64.wrap (-r 2) = -r 2 := w64 (by omega) (by omega)
  rw [h10, fnOf_eq]
  simp only [turn_Back_w_x, turn_Back_w_n_q0, turn_Back_w_n_q1, turn_Back_w_n_q2, turn_Back_w_n_q3, List.map_cons, List.map_nil, D.of, X.d, den1, den3, den_sub, den_and, den_or, den_cons, den_get, int_i, bool_b, D.get, Int.toNat_zero, Int.toNat_one, Nat.reduceAdd, envD, D.seg, D.app, e20, e6, sent_d h6, hv', n0, n1, n2, r0, r1, r2, Int.neg_tdiv, c, tmod_neg_b, z, Int.add_zero, y0, y1, y2, Nat.zero_add, Nat.reduceAdd, tn_2, tn_3, gk_0, gk_1, gk_2, gk_3, hb', bk]
  simp [eqB]
set_option maxRecDepth 100000 in
theorem back_inv {f : D} (h : ((T 10 (D.seg 13 f 0)).get 13).bool = true) : VF T f ∧ ∃ r : Nat → Int, (∀ i, i < 3 → dtS f i = (f.get 9).int * r i) ∧ VF T (bk f r) := by
  have h10 : T 10 = fnOf F9 turn_Back_w_x := hF.tail.tail.tail.tail.tail.tail.tail.top
  have h6 : T 6 = fnOf F5 turn_sent_x := hF.tail.tail.tail.tail.tail.tail.tail.tail.tail.tail.tail.top
  have e20 : tabF F9 20 = T 20 := (tabF_eq hF.tail.tail.tail.tail.tail.tail.tail.tail (by kernel_rfl)).symm
  have e6 : tabF F9 6 = T 6 := (tabF_eq hF.tail.tail.tail.tail.tail.tail.tail.tail (by kernel_rfl)).symm
  rw [h10, fnOf_eq] at h
  simp only [turn_Back_w_x, turn_Back_w_n_q0, turn_Back_w_n_q1, turn_Back_w_n_q2, turn_Back_w_n_q3, List.map_cons, List.map_nil, D.of, X.d, den1, den3, den_sub, den_and, den_or, den_cons, den_get, int_i, bool_b, D.get, Int.toNat_zero, Int.toNat_one, Nat.reduceAdd, envD, D.seg, e20, e6, sent_d h6] at h
  simp only [tn_3, gk_0, gk_1, gk_2, gk_3, bool_b, and_t, or_f, not_t, not_f, eq_t] at h
  obtain ⟨hv, ⟨z0, z1, z2⟩, hb⟩ := h
  have hv : VF T f := hv
  have m0 : -25 ≤ (f.get 0).int ∧ (f.get 0).int ≤ 25 := frame_m hF.tail.tail.tail.tail.tail.tail.tail.tail.tail hv 0 (by decide)
  have m1 : -25 ≤ (f.get 1).int ∧ (f.get 1).int ≤ 25 := frame_m hF.tail.tail.tail.tail.tail.tail.tail.tail.tail hv 1 (by decide)
  have m2 : -25 ≤ (f.get 2).int ∧ (f.get 2).int ≤ 25 := frame_m hF.tail.tail.tail.tail.tail.tail.tail.tail.tail hv 2 (by decide)
  have m3 : -25 ≤ (f.get 3).int ∧ (f.get 3).int ≤ 25 := frame_m hF.tail.tail.tail.tail.tail.tail.tail.tail.tail hv 3 (by decide)
  have m4 : -25 ≤ (f.get 4).int ∧ (f.get 4).int ≤ 25 := frame_m hF.tail.tail.tail.tail.tail.tail.tail.tail.tail hv 4 (by decide)
  have m5 : -25 ≤ (f.get 5).int ∧ (f.get 5).int ≤ 25 := frame_m hF.tail.tail.tail.tail.tail.tail.tail.tail.tail hv 5 (by decide)
  have m6 : -25 ≤ (f.get 6).int ∧ (f.get 6).int ≤ 25 := frame_m hF.tail.tail.tail.tail.tail.tail.tail.tail.tail hv 6 (by decide)
  have m7 : -25 ≤ (f.get 7).int ∧ (f.get 7).int ≤ 25 := frame_m hF.tail.tail.tail.tail.tail.tail.tail.tail.tail hv 7 (by decide)
  have m8 : -25 ≤ (f.get 8).int ∧ (f.get 8).int ≤ 25 := frame_m hF.tail.tail.tail.tail.tail.tail.tail.tail.tail hv 8 (by decide)
  have dd : 1 ≤ (f.get 9).int ∧ (f.get 9).int ≤ 25 := ⟨(frame_b hF.tail.tail.tail.tail.tail.tail.tail.tail.tail hv).1, (frame_b hF.tail.tail.tail.tail.tail.tail.tail.tail.tail hv).2.1⟩
  have s0 : -96 ≤ (f.get 10).int ∧ (f.get 10).int ≤ 96 := (frame_b hF.tail.tail.tail.tail.tail.tail.tail.tail.tail hv).2.2.2 0 (by decide)
  have s1 : -96 ≤ (f.get 11).int ∧ (f.get 11).int ≤ 96 := (frame_b hF.tail.tail.tail.tail.tail.tail.tail.tail.tail hv).2.2.2 1 (by decide)
  have s2 : -96 ≤ (f.get 12).int ∧ (f.get 12).int ≤ 96 := (frame_b hF.tail.tail.tail.tail.tail.tail.tail.tail.tail hv).2.2.2 2 (by decide)
  have n0 : IntKind.i64.wrap (0 - (f.get 10).int) = -(f.get 10).int := by rw [w64 (by omega) (by omega)]; omega
  have p0 := dot_in m0.1 m0.2 s0.1 s0.2 m3.1 m3.2 s1.1 s1.2 m6.1 m6.2 s2.1 s2.2
  have r0 := (dot_in m0.1 m0.2 (show -96 ≤ -(f.get 10).int by omega) (show -(f.get 10).int ≤ 96 by omega) m3.1 m3.2 (show -96 ≤ -(f.get 11).int by omega) (show -(f.get 11).int ≤ 96 by omega) m6.1 m6.2 (show -96 ≤ -(f.get 12).int by omega) (show -(f.get 12).int ≤ 96 by omega)).1
  rw [dot_neg] at r0
  have n1 : IntKind.i64.wrap (0 - (f.get 11).int) = -(f.get 11).int := by rw [w64 (by omega) (by omega)]; omega
  have p1 := dot_in m1.1 m1.2 s0.1 s0.2 m4.1 m4.2 s1.1 s1.2 m7.1 m7.2 s2.1 s2.2
  have r1 := (dot_in m1.1 m1.2 (show -96 ≤ -(f.get 10).int by omega) (show -(f.get 10).int ≤ 96 by omega) m4.1 m4.2 (show -96 ≤ -(f.get 11).int by omega) (show -(f.get 11).int ≤ 96 by omega) m7.1 m7.2 (show -96 ≤ -(f.get 12).int by omega) (show -(f.get 12).int ≤ 96 by omega)).1
  rw [dot_neg] at r1
  have n2 : IntKind.i64.wrap (0 - (f.get 12).int) = -(f.get 12).int := by rw [w64 (by omega) (by omega)]; omega
  have p2 := dot_in m2.1 m2.2 s0.1 s0.2 m5.1 m5.2 s1.1 s1.2 m8.1 m8.2 s2.1 s2.2
  have r2 := (dot_in m2.1 m2.2 (show -96 ≤ -(f.get 10).int by omega) (show -(f.get 10).int ≤ 96 by omega) m5.1 m5.2 (show -96 ≤ -(f.get 11).int by omega) (show -(f.get 11).int ≤ 96 by omega) m8.1 m8.2 (show -96 ≤ -(f.get 12).int by omega) (show -(f.get 12).int ≤ 96 by omega)).1
  rw [dot_neg] at r2
  rw [n0, n1, n2] at z0 z1 z2 hb
  rw [r0] at z0 hb
  rw [r1] at z1 hb
  rw [r2] at z2 hb
  rw [Int.neg_tmod] at z0 z1 z2
  have t0 := tdiv_w (d := (f.get 9).int) p0.2.1 p0.2.2
  have t1 := tdiv_w (d := (f.get 9).int) p1.2.1 p1.2.2
  have t2 := tdiv_w (d := (f.get 9).int) p2.2.1 p2.2.2
  have q0 := Int.mul_tdiv_cancel' (Int.dvd_of_tmod_eq_zero (show Int.tmod _ _ = 0 by exact Int.neg_eq_zero.1 z0))
  have q1 := Int.mul_tdiv_cancel' (Int.dvd_of_tmod_eq_zero (show Int.tmod _ _ = 0 by exact Int.neg_eq_zero.1 z1))
  have q2 := Int.mul_tdiv_cancel' (Int.dvd_of_tmod_eq_zero (show Int.tmod _ _ = 0 by exact Int.neg_eq_zero.1 z2))
  rw [tdiv_neg_w' p0.2.1 p0.2.2, tdiv_neg_w' p1.2.1 p1.2.2, tdiv_neg_w' p2.2.1 p2.2.2] at hb
  refine ⟨hv, fun i => (dtS f i).tdiv (f.get 9).int, fun i hi => ?_, hb⟩
  have : i = 0 ∨ i = 1 ∨ i = 2 := by omega
  rcases this with rfl | rfl | rfl
  · exact q0.symm
  · exact q1.symm
  · exact q2.symm
end
def dS (g f : D) (i : Nat) : Int := (g.get (3 * i)).int * (f.get 10).int + (g.get (3 * i + 1)).int * (f.get 11).int + (g.get (3 * i + 2)).int * (f.get 12).int
def pr (g f : D) (i j : Nat) : Int := (g.get (3 * i)).int * (f.get j).int + (g.get (3 * i + 1)).int * (f.get (3 + j)).int + (g.get (3 * i + 2)).int * (f.get (6 + j)).int
def cc (f g : D) : Int := gmI ((g.get 9).int * (f.get 9).int) (pr g f 0 0) (pr g f 0 1) (pr g f 0 2) (pr g f 1 0) (pr g f 1 1) (pr g f 1 2) (pr g f 2 0) (pr g f 2 1) (pr g f 2 2)
def af (f g : D) (r : Nat → Int) : D := (.cons (.i (Int.tdiv (pr g f 0 0) (cc f g))) (.cons (.i (Int.tdiv (pr g f 0 1) (cc f g))) (.cons (.i (Int.tdiv (pr g f 0 2) (cc f g))) (.cons (.i (Int.tdiv (pr g f 1 0) (cc f g))) (.cons (.i (Int.tdiv (pr g f 1 1) (cc f g))) (.cons (.i (Int.tdiv (pr g f 1 2) (cc f g))) (.cons (.i (Int.tdiv (pr g f 2 0) (cc f g))) (.cons (.i (Int.tdiv (pr g f 2 1) (cc f g))) (.cons (.i (Int.tdiv (pr g f 2 2) (cc f g))) (.cons (.i (Int.tdiv ((g.get 9).int * (f.get 9).int) (cc f g))) (.cons (.i (r 0 + (g.get 10).int)) (.cons (.i (r 1 + (g.get 11).int)) (.cons (.i (r 2 + (g.get 12).int)) .nil)))))))))))))
section
variable {T : Tab} (hF : Fs.ok F17 T)
include hF
set_option maxRecDepth 100000 in
theorem after_ok {f g : D} (hf : VF T f) (hg : VF T g) (r : Nat → Int) (hr : ∀ i, i < 3 → dS g f i = (g.get 9).int * r i) (hb : VF T (af f g r)) : T 11 (D.app (D.seg 13 f 0) (D.seg 13 g 0)) = (af f g r).app (.cons (.b true) .nil) := by
  have h11 : T 11 = fnOf F10 turn_After_w_x := hF.tail.tail.tail.tail.tail.tail.top
  have h7 : T 7 = fnOf F6 turn_lowest_x := hF.tail.tail.tail.tail.tail.tail.tail.tail.tail.tail.top
  have h6 : T 6 = fnOf F5 turn_sent_x := hF.tail.tail.tail.tail.tail.tail.tail.tail.tail.tail.tail.top
  have h2 : T 2 = mdivD := hF.tail.tail.tail.tail.tail.tail.tail.tail.tail.tail.tail.tail.tail.tail.tail.top
  have e72 : tabF F6 2 = T 2 := (tabF_eq hF.tail.tail.tail.tail.tail.tail.tail.tail.tail.tail.tail (by kernel_rfl)).symm
  have e20 : tabF F10 20 = T 20 := (tabF_eq hF.tail.tail.tail.tail.tail.tail.tail (by kernel_rfl)).symm
  have e6 : tabF F10 6 = T 6 := (tabF_eq hF.tail.tail.tail.tail.tail.tail.tail (by kernel_rfl)).symm
  have e7 : tabF F10 7 = T 7 := (tabF_eq hF.tail.tail.tail.tail.tail.tail.tail (by kernel_rfl)).symm
  have fm0 : -25 ≤ (f.get 0).int ∧ (f.get 0).int ≤ 25 := frame_m hF.tail.tail.tail.tail.tail.tail.tail.tail.tail hf 0 (by decide)
  have fm1 : -25 ≤ (f.get 1).int ∧ (f.get 1).int ≤ 25 := frame_m hF.tail.tail.tail.tail.tail.tail.tail.tail.tail hf 1 (by decide)
  have fm2 : -25 ≤ (f.get 2).int ∧ (f.get 2).int ≤ 25 := frame_m hF.tail.tail.tail.tail.tail.tail.tail.tail.tail hf 2 (by decide)
  have fm3 : -25 ≤ (f.get 3).int ∧ (f.get 3).int ≤ 25 := frame_m hF.tail.tail.tail.tail.tail.tail.tail.tail.tail hf 3 (by decide)
  have fm4 : -25 ≤ (f.get 4).int ∧ (f.get 4).int ≤ 25 := frame_m hF.tail.tail.tail.tail.tail.tail.tail.tail.tail hf 4 (by decide)
  have fm5 : -25 ≤ (f.get 5).int ∧ (f.get 5).int ≤ 25 := frame_m hF.tail.tail.tail.tail.tail.tail.tail.tail.tail hf 5 (by decide)
  have fm6 : -25 ≤ (f.get 6).int ∧ (f.get 6).int ≤ 25 := frame_m hF.tail.tail.tail.tail.tail.tail.tail.tail.tail hf 6 (by decide)
  have fm7 : -25 ≤ (f.get 7).int ∧ (f.get 7).int ≤ 25 := frame_m hF.tail.tail.tail.tail.tail.tail.tail.tail.tail hf 7 (by decide)
  have fm8 : -25 ≤ (f.get 8).int ∧ (f.get 8).int ≤ 25 := frame_m hF.tail.tail.tail.tail.tail.tail.tail.tail.tail hf 8 (by decide)
  have fd : 1 ≤ (f.get 9).int ∧ (f.get 9).int ≤ 25 := ⟨(frame_b hF.tail.tail.tail.tail.tail.tail.tail.tail.tail hf).1, (frame_b hF.tail.tail.tail.tail.tail.tail.tail.tail.tail hf).2.1⟩
  have fs0 : -96 ≤ (f.get 10).int ∧ (f.get 10).int ≤ 96 := (frame_b hF.tail.tail.tail.tail.tail.tail.tail.tail.tail hf).2.2.2 0 (by decide)
  have fs1 : -96 ≤ (f.get 11).int ∧ (f.get 11).int ≤ 96 := (frame_b hF.tail.tail.tail.tail.tail.tail.tail.tail.tail hf).2.2.2 1 (by decide)
  have fs2 : -96 ≤ (f.get 12).int ∧ (f.get 12).int ≤ 96 := (frame_b hF.tail.tail.tail.tail.tail.tail.tail.tail.tail hf).2.2.2 2 (by decide)
  have gm0 : -25 ≤ (g.get 0).int ∧ (g.get 0).int ≤ 25 := frame_m hF.tail.tail.tail.tail.tail.tail.tail.tail.tail hg 0 (by decide)
  have gm1 : -25 ≤ (g.get 1).int ∧ (g.get 1).int ≤ 25 := frame_m hF.tail.tail.tail.tail.tail.tail.tail.tail.tail hg 1 (by decide)
  have gm2 : -25 ≤ (g.get 2).int ∧ (g.get 2).int ≤ 25 := frame_m hF.tail.tail.tail.tail.tail.tail.tail.tail.tail hg 2 (by decide)
  have gm3 : -25 ≤ (g.get 3).int ∧ (g.get 3).int ≤ 25 := frame_m hF.tail.tail.tail.tail.tail.tail.tail.tail.tail hg 3 (by decide)
  have gm4 : -25 ≤ (g.get 4).int ∧ (g.get 4).int ≤ 25 := frame_m hF.tail.tail.tail.tail.tail.tail.tail.tail.tail hg 4 (by decide)
  have gm5 : -25 ≤ (g.get 5).int ∧ (g.get 5).int ≤ 25 := frame_m hF.tail.tail.tail.tail.tail.tail.tail.tail.tail hg 5 (by decide)
  have gm6 : -25 ≤ (g.get 6).int ∧ (g.get 6).int ≤ 25 := frame_m hF.tail.tail.tail.tail.tail.tail.tail.tail.tail hg 6 (by decide)
  have gm7 : -25 ≤ (g.get 7).int ∧ (g.get 7).int ≤ 25 := frame_m hF.tail.tail.tail.tail.tail.tail.tail.tail.tail hg 7 (by decide)
  have gm8 : -25 ≤ (g.get 8).int ∧ (g.get 8).int ≤ 25 := frame_m hF.tail.tail.tail.tail.tail.tail.tail.tail.tail hg 8 (by decide)
  have gd : 1 ≤ (g.get 9).int ∧ (g.get 9).int ≤ 25 := ⟨(frame_b hF.tail.tail.tail.tail.tail.tail.tail.tail.tail hg).1, (frame_b hF.tail.tail.tail.tail.tail.tail.tail.tail.tail hg).2.1⟩
  have gs0 : -96 ≤ (g.get 10).int ∧ (g.get 10).int ≤ 96 := (frame_b hF.tail.tail.tail.tail.tail.tail.tail.tail.tail hg).2.2.2 0 (by decide)
  have gs1 : -96 ≤ (g.get 11).int ∧ (g.get 11).int ≤ 96 := (frame_b hF.tail.tail.tail.tail.tail.tail.tail.tail.tail hg).2.2.2 1 (by decide)
  have gs2 : -96 ≤ (g.get 12).int ∧ (g.get 12).int ≤ 96 := (frame_b hF.tail.tail.tail.tail.tail.tail.tail.tail.tail hg).2.2.2 2 (by decide)
  have p00 := dot_in gm0.1 gm0.2 (Int.le_trans (by decide : (-96 : Int) ≤ -25) fm0.1) (Int.le_trans fm0.2 (by decide : (25 : Int) ≤ 96)) gm1.1 gm1.2 (Int.le_trans (by decide : (-96 : Int) ≤ -25) fm3.1) (Int.le_trans fm3.2 (by decide : (25 : Int) ≤ 96)) gm2.1 gm2.2 (Int.le_trans (by decide : (-96 : Int) ≤ -25) fm6.1) (Int.le_trans fm6.2 (by decide : (25 : Int) ≤ 96))
  have p01 := dot_in gm0.1 gm0.2 (Int.le_trans (by decide : (-96 : Int) ≤ -25) fm1.1) (Int.le_trans fm1.2 (by decide : (25 : Int) ≤ 96)) gm1.1 gm1.2 (Int.le_trans (by decide : (-96 : Int) ≤ -25) fm4.1) (Int.le_trans fm4.2 (by decide : (25 : Int) ≤ 96)) gm2.1 gm2.2 (Int.le_trans (by decide : (-96 : Int) ≤ -25) fm7.1) (Int.le_trans fm7.2 (by decide : (25 : Int) ≤ 96))
  have p02 := dot_in gm0.1 gm0.2 (Int.le_trans (by decide : (-96 : Int) ≤ -25) fm2.1) (Int.le_trans fm2.2 (by decide : (25 : Int) ≤ 96)) gm1.1 gm1.2 (Int.le_trans (by decide : (-96 : Int) ≤ -25) fm5.1) (Int.le_trans fm5.2 (by decide : (25 : Int) ≤ 96)) gm2.1 gm2.2 (Int.le_trans (by decide : (-96 : Int) ≤ -25) fm8.1) (Int.le_trans fm8.2 (by decide : (25 : Int) ≤ 96))
  have p10 := dot_in gm3.1 gm3.2 (Int.le_trans (by decide : (-96 : Int) ≤ -25) fm0.1) (Int.le_trans fm0.2 (by decide : (25 : Int) ≤ 96)) gm4.1 gm4.2 (Int.le_trans (by decide : (-96 : Int) ≤ -25) fm3.1) (Int.le_trans fm3.2 (by decide : (25 : Int) ≤ 96)) gm5.1 gm5.2 (Int.le_trans (by decide : (-96 : Int) ≤ -25) fm6.1) (Int.le_trans fm6.2 (by decide : (25 : Int) ≤ 96))
  have p11 := dot_in gm3.1 gm3.2 (Int.le_trans (by decide : (-96 : Int) ≤ -25) fm1.1) (Int.le_trans fm1.2 (by decide : (25 : Int) ≤ 96)) gm4.1 gm4.2 (Int.le_trans (by decide : (-96 : Int) ≤ -25) fm4.1) (Int.le_trans fm4.2 (by decide : (25 : Int) ≤ 96)) gm5.1 gm5.2 (Int.le_trans (by decide : (-96 : Int) ≤ -25) fm7.1) (Int.le_trans fm7.2 (by decide : (25 : Int) ≤ 96))
  have p12 := dot_in gm3.1 gm3.2 (Int.le_trans (by decide : (-96 : Int) ≤ -25) fm2.1) (Int.le_trans fm2.2 (by decide : (25 : Int) ≤ 96)) gm4.1 gm4.2 (Int.le_trans (by decide : (-96 : Int) ≤ -25) fm5.1) (Int.le_trans fm5.2 (by decide : (25 : Int) ≤ 96)) gm5.1 gm5.2 (Int.le_trans (by decide : (-96 : Int) ≤ -25) fm8.1) (Int.le_trans fm8.2 (by decide : (25 : Int) ≤ 96))
  have p20 := dot_in gm6.1 gm6.2 (Int.le_trans (by decide : (-96 : Int) ≤ -25) fm0.1) (Int.le_trans fm0.2 (by decide : (25 : Int) ≤ 96)) gm7.1 gm7.2 (Int.le_trans (by decide : (-96 : Int) ≤ -25) fm3.1) (Int.le_trans fm3.2 (by decide : (25 : Int) ≤ 96)) gm8.1 gm8.2 (Int.le_trans (by decide : (-96 : Int) ≤ -25) fm6.1) (Int.le_trans fm6.2 (by decide : (25 : Int) ≤ 96))
  have p21 := dot_in gm6.1 gm6.2 (Int.le_trans (by decide : (-96 : Int) ≤ -25) fm1.1) (Int.le_trans fm1.2 (by decide : (25 : Int) ≤ 96)) gm7.1 gm7.2 (Int.le_trans (by decide : (-96 : Int) ≤ -25) fm4.1) (Int.le_trans fm4.2 (by decide : (25 : Int) ≤ 96)) gm8.1 gm8.2 (Int.le_trans (by decide : (-96 : Int) ≤ -25) fm7.1) (Int.le_trans fm7.2 (by decide : (25 : Int) ≤ 96))
  have p22 := dot_in gm6.1 gm6.2 (Int.le_trans (by decide : (-96 : Int) ≤ -25) fm2.1) (Int.le_trans fm2.2 (by decide : (25 : Int) ≤ 96)) gm7.1 gm7.2 (Int.le_trans (by decide : (-96 : Int) ≤ -25) fm5.1) (Int.le_trans fm5.2 (by decide : (25 : Int) ≤ 96)) gm8.1 gm8.2 (Int.le_trans (by decide : (-96 : Int) ≤ -25) fm8.1) (Int.le_trans fm8.2 (by decide : (25 : Int) ≤ 96))
  have u0 := dot_in gm0.1 gm0.2 fs0.1 fs0.2 gm1.1 gm1.2 fs1.1 fs1.2 gm2.1 gm2.2 fs2.1 fs2.2
  have u1 := dot_in gm3.1 gm3.2 fs0.1 fs0.2 gm4.1 gm4.2 fs1.1 fs1.2 gm5.1 gm5.2 fs2.1 fs2.2
  have u2 := dot_in gm6.1 gm6.2 fs0.1 fs0.2 gm7.1 gm7.2 fs1.1 fs1.2 gm8.1 gm8.2 fs2.1 fs2.2
  have f00 : (g.get 0).int * (f.get 0).int + (g.get 1).int * (f.get 3).int + (g.get 2).int * (f.get 6).int = pr g f 0 0 := rfl
  rw [f00] at p00
  have f01 : (g.get 0).int * (f.get 1).int + (g.get 1).int * (f.get 4).int + (g.get 2).int * (f.get 7).int = pr g f 0 1 := rfl
  rw [f01] at p01
  have f02 : (g.get 0).int * (f.get 2).int + (g.get 1).int * (f.get 5).int + (g.get 2).int * (f.get 8).int = pr g f 0 2 := rfl
  rw [f02] at p02
  have f10 : (g.get 3).int * (f.get 0).int + (g.get 4).int * (f.get 3).int + (g.get 5).int * (f.get 6).int = pr g f 1 0 := rfl
  rw [f10] at p10
  have f11 : (g.get 3).int * (f.get 1).int + (g.get 4).int * (f.get 4).int + (g.get 5).int * (f.get 7).int = pr g f 1 1 := rfl
  rw [f11] at p11
  have f12 : (g.get 3).int * (f.get 2).int + (g.get 4).int * (f.get 5).int + (g.get 5).int * (f.get 8).int = pr g f 1 2 := rfl
  rw [f12] at p12
  have f20 : (g.get 6).int * (f.get 0).int + (g.get 7).int * (f.get 3).int + (g.get 8).int * (f.get 6).int = pr g f 2 0 := rfl
  rw [f20] at p20
  have f21 : (g.get 6).int * (f.get 1).int + (g.get 7).int * (f.get 4).int + (g.get 8).int * (f.get 7).int = pr g f 2 1 := rfl
  rw [f21] at p21
  have f22 : (g.get 6).int * (f.get 2).int + (g.get 7).int * (f.get 5).int + (g.get 8).int * (f.get 8).int = pr g f 2 2 := rfl
  rw [f22] at p22
  have t00 := (tdiv_w (d := cc f g) p00.2.1 p00.2.2).1
  have t01 := (tdiv_w (d := cc f g) p01.2.1 p01.2.2).1
  have t02 := (tdiv_w (d := cc f g) p02.2.1 p02.2.2).1
  have t10 := (tdiv_w (d := cc f g) p10.2.1 p10.2.2).1
  have t11 := (tdiv_w (d := cc f g) p11.2.1 p11.2.2).1
  have t12 := (tdiv_w (d := cc f g) p12.2.1 p12.2.2).1
  have t20 := (tdiv_w (d := cc f g) p20.2.1 p20.2.2).1
  have t21 := (tdiv_w (d := cc f g) p21.2.1 p21.2.2).1
  have t22 := (tdiv_w (d := cc f g) p22.2.1 p22.2.2).1
  have gc : gmI ((g.get 9).int * (f.get 9).int) (pr g f 0 0) (pr g f 0 1) (pr g f 0 2) (pr g f 1 0) (pr g f 1 1) (pr g f 1 2) (pr g f 2 0) (pr g f 2 1) (pr g f 2 2) = cc f g := rfl
  have q := den_in gd.1 gd.2 fd.1 fd.2
  have tq := (tdiv_w (u := (g.get 9).int * (f.get 9).int) (d := cc f g) (by omega) (by omega)).1
  have e0 : D.int (D.get g 0) * D.int (D.get f 10) + D.int (D.get g 1) * D.int (D.get f 11) + D.int (D.get g 2) * D.int (D.get f 12) = D.int (D.get g 9) * r 0 := hr 0 (by decide)
  have e1 : D.int (D.get g 3) * D.int (D.get f 10) + D.int (D.get g 4) * D.int (D.get f 11) + D.int (D.get g 5) * D.int (D.get f 12) = D.int (D.get g 9) * r 1 := hr 1 (by decide)
  have e2 : D.int (D.get g 6) * D.int (D.get f 10) + D.int (D.get g 7) * D.int (D.get f 11) + D.int (D.get g 8) * D.int (D.get f 12) = D.int (D.get g 9) * r 2 := hr 2 (by decide)
  rw [e0] at u0
  rw [e1] at u1
  rw [e2] at u2
  have c : ∀ x : Int, ((g.get 9).int * x).tdiv (g.get 9).int = x := fun x => Int.mul_tdiv_cancel_left x (by omega)
  have z : ∀ x : Int, ((g.get 9).int * x).tmod (g.get 9).int = 0 := fun x => Int.mul_tmod_right _ _
  have t0 := (tdiv_w (d := (g.get 9).int) u0.2.1 u0.2.2).2
  have t1 := (tdiv_w (d := (g.get 9).int) u1.2.1 u1.2.2).2
  have t2 := (tdiv_w (d := (g.get 9).int) u2.2.1 u2.2.2).2
  rw [c] at t0 t1 t2
  have y0 : IntKind.i64.wrap (r 0) = r 0 := w64 (by omega) (by omega)
  have y1 : IntKind.i64.wrap (r 1) = r 1 := w64 (by omega) (by omega)
  have y2 : IntKind.i64.wrap (r 2) = r 2 := w64 (by omega) (by omega)
  have x0 : IntKind.i64.wrap (r 0 + (g.get 10).int) = r 0 + (g.get 10).int := w64 (by omega) (by omega)
  have x1 : IntKind.i64.wrap (r 1 + (g.get 11).int) = r 1 + (g.get 11).int := w64 (by omega) (by omega)
  have x2 : IntKind.i64.wrap (r 2 + (g.get 12).int) = r 2 + (g.get 12).int := w64 (by omega) (by omega)
  have hf' : ((T 20 (.cons (f.get 0) (.cons (f.get 1) (.cons (f.get 2) (.cons (f.get 3) (.cons (f.get 4) (.cons (f.get 5) (.cons (f.get 6) (.cons (f.get 7) (.cons (f.get 8) (.cons (f.get 9) (.cons (f.get 10) (.cons (f.get 11) (.cons (f.get 12) .nil)))))))))))))).get 0).bool = true := hf
  have hg' : ((T 20 (.cons (g.get 0) (.cons (g.get 1) (.cons (g.get 2) (.cons (g.get 3) (.cons (g.get 4) (.cons (g.get 5) (.cons (g.get 6) (.cons (g.get 7) (.cons (g.get 8) (.cons (g.get 9) (.cons (g.get 10) (.cons (g.get 11) (.cons (g.get 12) .nil)))))))))))))).get 0).bool = true := hg
  have hb' : ((T 20 (.cons (.i (Int.tdiv (pr g f 0 0) (cc f g))) (.cons (.i (Int.tdiv (pr g f 0 1) (cc f g))) (.cons (.i (Int.tdiv (pr g f 0 2) (cc f g))) (.cons (.i (Int.tdiv (pr g f 1 0) (cc f g))) (.cons (.i (Int.tdiv (pr g f 1 1) (cc f g))) (.cons (.i (Int.tdiv (pr g f 1 2) (cc f g))) (.cons (.i (Int.tdiv (pr g f 2 0) (cc f g))) (.cons (.i (Int.tdiv (pr g f 2 1) (cc f g))) (.cons (.i (Int.tdiv (pr g f 2 2) (cc f g))) (.cons (.i (Int.tdiv ((g.get 9).int * (f.get 9).int) (cc f g))) (.cons (.i (r 0 + (g.get 10).int)) (.cons (.i (r 1 + (g.get 11).int)) (.cons (.i (r 2 + (g.get 12).int)) .nil)))))))))))))).get 0).bool = true := hb
  rw [h11, fnOf_eq]
  simp only [turn_After_w_x, turn_After_w_n_q0, turn_After_w_n_q1, turn_After_w_n_q2, turn_After_w_n_q3, turn_After_w_n_q4, turn_After_w_n_q5, List.map_cons, List.map_nil, D.of, X.d, den1, den3, den_add, den_mul, den_and, den_or, den_cons, den_get, den_app, int_i, bool_b, D.get, Int.toNat_zero, Int.toNat_one, Nat.reduceAdd, envD, D.seg, D.app, tn_2, tn_3, tn_4, tn_5, tn_6, tn_7, tn_8, tn_9, gk_0, gk_1, gk_2, gk_3, gk_4, gk_5, gk_6, gk_7, gk_8, gk_9, e20, e6, e7, sent_d h6, low_d h2 h7 e72, hf', hg', w_zero, p00.1, p01.1, p02.1, p10.1, p11.1, p12.1, p20.1, p21.1, p22.1, q.1, gc, t00, t01, t02, t10, t11, t12, t20, t21, t22, tq, u0.1, u1.1, u2.1, c, z, y0, y1, y2, x0, x1, x2, Nat.zero_add, Nat.reduceAdd, hb', af]
  simp [eqB]
set_option maxRecDepth 100000 in
theorem after_inv {f g : D} (h : ((T 11 (D.app (D.seg 13 f 0) (D.seg 13 g 0))).get 13).bool = true) : VF T f ∧ VF T g ∧ ∃ r : Nat → Int, (∀ i, i < 3 → dS g f i = (g.get 9).int * r i) ∧ VF T (af f g r) := by
  have h11 : T 11 = fnOf F10 turn_After_w_x := hF.tail.tail.tail.tail.tail.tail.top
  have h7 : T 7 = fnOf F6 turn_lowest_x := hF.tail.tail.tail.tail.tail.tail.tail.tail.tail.tail.top
  have h6 : T 6 = fnOf F5 turn_sent_x := hF.tail.tail.tail.tail.tail.tail.tail.tail.tail.tail.tail.top
  have h2 : T 2 = mdivD := hF.tail.tail.tail.tail.tail.tail.tail.tail.tail.tail.tail.tail.tail.tail.tail.top
  have e72 : tabF F6 2 = T 2 := (tabF_eq hF.tail.tail.tail.tail.tail.tail.tail.tail.tail.tail.tail (by kernel_rfl)).symm
  have e20 : tabF F10 20 = T 20 := (tabF_eq hF.tail.tail.tail.tail.tail.tail.tail (by kernel_rfl)).symm
  have e6 : tabF F10 6 = T 6 := (tabF_eq hF.tail.tail.tail.tail.tail.tail.tail (by kernel_rfl)).symm
  have e7 : tabF F10 7 = T 7 := (tabF_eq hF.tail.tail.tail.tail.tail.tail.tail (by kernel_rfl)).symm
  rw [h11, fnOf_eq] at h
  simp only [turn_After_w_x, turn_After_w_n_q0, turn_After_w_n_q1, turn_After_w_n_q2, turn_After_w_n_q3, turn_After_w_n_q4, turn_After_w_n_q5, List.map_cons, List.map_nil, D.of, X.d, den1, den3, den_add, den_mul, den_and, den_or, den_cons, den_get, den_app, int_i, bool_b, D.get, Int.toNat_zero, Int.toNat_one, Nat.reduceAdd, envD, D.seg, D.app, tn_2, tn_3, tn_4, tn_5, tn_6, tn_7, tn_8, tn_9, gk_0, gk_1, gk_2, gk_3, gk_4, gk_5, gk_6, gk_7, gk_8, gk_9, gk_13, e20, e6, e7, sent_d h6, low_d h2 h7 e72, w_zero, Nat.zero_add, Nat.reduceAdd, int_i, bool_b, and_t, or_f, not_t, not_f, eq_t] at h
  obtain ⟨⟨hf, hg⟩, ⟨z0, z1, z2⟩, hb⟩ := h
  have hf : VF T f := hf
  have hg : VF T g := hg
  have fm0 : -25 ≤ (f.get 0).int ∧ (f.get 0).int ≤ 25 := frame_m hF.tail.tail.tail.tail.tail.tail.tail.tail.tail hf 0 (by decide)
  have fm1 : -25 ≤ (f.get 1).int ∧ (f.get 1).int ≤ 25 := frame_m hF.tail.tail.tail.tail.tail.tail.tail.tail.tail hf 1 (by decide)
  have fm2 : -25 ≤ (f.get 2).int ∧ (f.get 2).int ≤ 25 := frame_m hF.tail.tail.tail.tail.tail.tail.tail.tail.tail hf 2 (by decide)
  have fm3 : -25 ≤ (f.get 3).int ∧ (f.get 3).int ≤ 25 := frame_m hF.tail.tail.tail.tail.tail.tail.tail.tail.tail hf 3 (by decide)
  have fm4 : -25 ≤ (f.get 4).int ∧ (f.get 4).int ≤ 25 := frame_m hF.tail.tail.tail.tail.tail.tail.tail.tail.tail hf 4 (by decide)
  have fm5 : -25 ≤ (f.get 5).int ∧ (f.get 5).int ≤ 25 := frame_m hF.tail.tail.tail.tail.tail.tail.tail.tail.tail hf 5 (by decide)
  have fm6 : -25 ≤ (f.get 6).int ∧ (f.get 6).int ≤ 25 := frame_m hF.tail.tail.tail.tail.tail.tail.tail.tail.tail hf 6 (by decide)
  have fm7 : -25 ≤ (f.get 7).int ∧ (f.get 7).int ≤ 25 := frame_m hF.tail.tail.tail.tail.tail.tail.tail.tail.tail hf 7 (by decide)
  have fm8 : -25 ≤ (f.get 8).int ∧ (f.get 8).int ≤ 25 := frame_m hF.tail.tail.tail.tail.tail.tail.tail.tail.tail hf 8 (by decide)
  have fd : 1 ≤ (f.get 9).int ∧ (f.get 9).int ≤ 25 := ⟨(frame_b hF.tail.tail.tail.tail.tail.tail.tail.tail.tail hf).1, (frame_b hF.tail.tail.tail.tail.tail.tail.tail.tail.tail hf).2.1⟩
  have fs0 : -96 ≤ (f.get 10).int ∧ (f.get 10).int ≤ 96 := (frame_b hF.tail.tail.tail.tail.tail.tail.tail.tail.tail hf).2.2.2 0 (by decide)
  have fs1 : -96 ≤ (f.get 11).int ∧ (f.get 11).int ≤ 96 := (frame_b hF.tail.tail.tail.tail.tail.tail.tail.tail.tail hf).2.2.2 1 (by decide)
  have fs2 : -96 ≤ (f.get 12).int ∧ (f.get 12).int ≤ 96 := (frame_b hF.tail.tail.tail.tail.tail.tail.tail.tail.tail hf).2.2.2 2 (by decide)
  have gm0 : -25 ≤ (g.get 0).int ∧ (g.get 0).int ≤ 25 := frame_m hF.tail.tail.tail.tail.tail.tail.tail.tail.tail hg 0 (by decide)
  have gm1 : -25 ≤ (g.get 1).int ∧ (g.get 1).int ≤ 25 := frame_m hF.tail.tail.tail.tail.tail.tail.tail.tail.tail hg 1 (by decide)
  have gm2 : -25 ≤ (g.get 2).int ∧ (g.get 2).int ≤ 25 := frame_m hF.tail.tail.tail.tail.tail.tail.tail.tail.tail hg 2 (by decide)
  have gm3 : -25 ≤ (g.get 3).int ∧ (g.get 3).int ≤ 25 := frame_m hF.tail.tail.tail.tail.tail.tail.tail.tail.tail hg 3 (by decide)
  have gm4 : -25 ≤ (g.get 4).int ∧ (g.get 4).int ≤ 25 := frame_m hF.tail.tail.tail.tail.tail.tail.tail.tail.tail hg 4 (by decide)
  have gm5 : -25 ≤ (g.get 5).int ∧ (g.get 5).int ≤ 25 := frame_m hF.tail.tail.tail.tail.tail.tail.tail.tail.tail hg 5 (by decide)
  have gm6 : -25 ≤ (g.get 6).int ∧ (g.get 6).int ≤ 25 := frame_m hF.tail.tail.tail.tail.tail.tail.tail.tail.tail hg 6 (by decide)
  have gm7 : -25 ≤ (g.get 7).int ∧ (g.get 7).int ≤ 25 := frame_m hF.tail.tail.tail.tail.tail.tail.tail.tail.tail hg 7 (by decide)
  have gm8 : -25 ≤ (g.get 8).int ∧ (g.get 8).int ≤ 25 := frame_m hF.tail.tail.tail.tail.tail.tail.tail.tail.tail hg 8 (by decide)
  have gd : 1 ≤ (g.get 9).int ∧ (g.get 9).int ≤ 25 := ⟨(frame_b hF.tail.tail.tail.tail.tail.tail.tail.tail.tail hg).1, (frame_b hF.tail.tail.tail.tail.tail.tail.tail.tail.tail hg).2.1⟩
  have gs0 : -96 ≤ (g.get 10).int ∧ (g.get 10).int ≤ 96 := (frame_b hF.tail.tail.tail.tail.tail.tail.tail.tail.tail hg).2.2.2 0 (by decide)
  have gs1 : -96 ≤ (g.get 11).int ∧ (g.get 11).int ≤ 96 := (frame_b hF.tail.tail.tail.tail.tail.tail.tail.tail.tail hg).2.2.2 1 (by decide)
  have gs2 : -96 ≤ (g.get 12).int ∧ (g.get 12).int ≤ 96 := (frame_b hF.tail.tail.tail.tail.tail.tail.tail.tail.tail hg).2.2.2 2 (by decide)
  have p00 := dot_in gm0.1 gm0.2 (Int.le_trans (by decide : (-96 : Int) ≤ -25) fm0.1) (Int.le_trans fm0.2 (by decide : (25 : Int) ≤ 96)) gm1.1 gm1.2 (Int.le_trans (by decide : (-96 : Int) ≤ -25) fm3.1) (Int.le_trans fm3.2 (by decide : (25 : Int) ≤ 96)) gm2.1 gm2.2 (Int.le_trans (by decide : (-96 : Int) ≤ -25) fm6.1) (Int.le_trans fm6.2 (by decide : (25 : Int) ≤ 96))
  have p01 := dot_in gm0.1 gm0.2 (Int.le_trans (by decide : (-96 : Int) ≤ -25) fm1.1) (Int.le_trans fm1.2 (by decide : (25 : Int) ≤ 96)) gm1.1 gm1.2 (Int.le_trans (by decide : (-96 : Int) ≤ -25) fm4.1) (Int.le_trans fm4.2 (by decide : (25 : Int) ≤ 96)) gm2.1 gm2.2 (Int.le_trans (by decide : (-96 : Int) ≤ -25) fm7.1) (Int.le_trans fm7.2 (by decide : (25 : Int) ≤ 96))
  have p02 := dot_in gm0.1 gm0.2 (Int.le_trans (by decide : (-96 : Int) ≤ -25) fm2.1) (Int.le_trans fm2.2 (by decide : (25 : Int) ≤ 96)) gm1.1 gm1.2 (Int.le_trans (by decide : (-96 : Int) ≤ -25) fm5.1) (Int.le_trans fm5.2 (by decide : (25 : Int) ≤ 96)) gm2.1 gm2.2 (Int.le_trans (by decide : (-96 : Int) ≤ -25) fm8.1) (Int.le_trans fm8.2 (by decide : (25 : Int) ≤ 96))
  have p10 := dot_in gm3.1 gm3.2 (Int.le_trans (by decide : (-96 : Int) ≤ -25) fm0.1) (Int.le_trans fm0.2 (by decide : (25 : Int) ≤ 96)) gm4.1 gm4.2 (Int.le_trans (by decide : (-96 : Int) ≤ -25) fm3.1) (Int.le_trans fm3.2 (by decide : (25 : Int) ≤ 96)) gm5.1 gm5.2 (Int.le_trans (by decide : (-96 : Int) ≤ -25) fm6.1) (Int.le_trans fm6.2 (by decide : (25 : Int) ≤ 96))
  have p11 := dot_in gm3.1 gm3.2 (Int.le_trans (by decide : (-96 : Int) ≤ -25) fm1.1) (Int.le_trans fm1.2 (by decide : (25 : Int) ≤ 96)) gm4.1 gm4.2 (Int.le_trans (by decide : (-96 : Int) ≤ -25) fm4.1) (Int.le_trans fm4.2 (by decide : (25 : Int) ≤ 96)) gm5.1 gm5.2 (Int.le_trans (by decide : (-96 : Int) ≤ -25) fm7.1) (Int.le_trans fm7.2 (by decide : (25 : Int) ≤ 96))
  have p12 := dot_in gm3.1 gm3.2 (Int.le_trans (by decide : (-96 : Int) ≤ -25) fm2.1) (Int.le_trans fm2.2 (by decide : (25 : Int) ≤ 96)) gm4.1 gm4.2 (Int.le_trans (by decide : (-96 : Int) ≤ -25) fm5.1) (Int.le_trans fm5.2 (by decide : (25 : Int) ≤ 96)) gm5.1 gm5.2 (Int.le_trans (by decide : (-96 : Int) ≤ -25) fm8.1) (Int.le_trans fm8.2 (by decide : (25 : Int) ≤ 96))
  have p20 := dot_in gm6.1 gm6.2 (Int.le_trans (by decide : (-96 : Int) ≤ -25) fm0.1) (Int.le_trans fm0.2 (by decide : (25 : Int) ≤ 96)) gm7.1 gm7.2 (Int.le_trans (by decide : (-96 : Int) ≤ -25) fm3.1) (Int.le_trans fm3.2 (by decide : (25 : Int) ≤ 96)) gm8.1 gm8.2 (Int.le_trans (by decide : (-96 : Int) ≤ -25) fm6.1) (Int.le_trans fm6.2 (by decide : (25 : Int) ≤ 96))
  have p21 := dot_in gm6.1 gm6.2 (Int.le_trans (by decide : (-96 : Int) ≤ -25) fm1.1) (Int.le_trans fm1.2 (by decide : (25 : Int) ≤ 96)) gm7.1 gm7.2 (Int.le_trans (by decide : (-96 : Int) ≤ -25) fm4.1) (Int.le_trans fm4.2 (by decide : (25 : Int) ≤ 96)) gm8.1 gm8.2 (Int.le_trans (by decide : (-96 : Int) ≤ -25) fm7.1) (Int.le_trans fm7.2 (by decide : (25 : Int) ≤ 96))
  have p22 := dot_in gm6.1 gm6.2 (Int.le_trans (by decide : (-96 : Int) ≤ -25) fm2.1) (Int.le_trans fm2.2 (by decide : (25 : Int) ≤ 96)) gm7.1 gm7.2 (Int.le_trans (by decide : (-96 : Int) ≤ -25) fm5.1) (Int.le_trans fm5.2 (by decide : (25 : Int) ≤ 96)) gm8.1 gm8.2 (Int.le_trans (by decide : (-96 : Int) ≤ -25) fm8.1) (Int.le_trans fm8.2 (by decide : (25 : Int) ≤ 96))
  have u0 := dot_in gm0.1 gm0.2 fs0.1 fs0.2 gm1.1 gm1.2 fs1.1 fs1.2 gm2.1 gm2.2 fs2.1 fs2.2
  have u1 := dot_in gm3.1 gm3.2 fs0.1 fs0.2 gm4.1 gm4.2 fs1.1 fs1.2 gm5.1 gm5.2 fs2.1 fs2.2
  have u2 := dot_in gm6.1 gm6.2 fs0.1 fs0.2 gm7.1 gm7.2 fs1.1 fs1.2 gm8.1 gm8.2 fs2.1 fs2.2
  have f00 : (g.get 0).int * (f.get 0).int + (g.get 1).int * (f.get 3).int + (g.get 2).int * (f.get 6).int = pr g f 0 0 := rfl
  rw [f00] at p00
  have f01 : (g.get 0).int * (f.get 1).int + (g.get 1).int * (f.get 4).int + (g.get 2).int * (f.get 7).int = pr g f 0 1 := rfl
  rw [f01] at p01
  have f02 : (g.get 0).int * (f.get 2).int + (g.get 1).int * (f.get 5).int + (g.get 2).int * (f.get 8).int = pr g f 0 2 := rfl
  rw [f02] at p02
  have f10 : (g.get 3).int * (f.get 0).int + (g.get 4).int * (f.get 3).int + (g.get 5).int * (f.get 6).int = pr g f 1 0 := rfl
  rw [f10] at p10
  have f11 : (g.get 3).int * (f.get 1).int + (g.get 4).int * (f.get 4).int + (g.get 5).int * (f.get 7).int = pr g f 1 1 := rfl
  rw [f11] at p11
  have f12 : (g.get 3).int * (f.get 2).int + (g.get 4).int * (f.get 5).int + (g.get 5).int * (f.get 8).int = pr g f 1 2 := rfl
  rw [f12] at p12
  have f20 : (g.get 6).int * (f.get 0).int + (g.get 7).int * (f.get 3).int + (g.get 8).int * (f.get 6).int = pr g f 2 0 := rfl
  rw [f20] at p20
  have f21 : (g.get 6).int * (f.get 1).int + (g.get 7).int * (f.get 4).int + (g.get 8).int * (f.get 7).int = pr g f 2 1 := rfl
  rw [f21] at p21
  have f22 : (g.get 6).int * (f.get 2).int + (g.get 7).int * (f.get 5).int + (g.get 8).int * (f.get 8).int = pr g f 2 2 := rfl
  rw [f22] at p22
  have t00 := (tdiv_w (d := cc f g) p00.2.1 p00.2.2).1
  have t01 := (tdiv_w (d := cc f g) p01.2.1 p01.2.2).1
  have t02 := (tdiv_w (d := cc f g) p02.2.1 p02.2.2).1
  have t10 := (tdiv_w (d := cc f g) p10.2.1 p10.2.2).1
  have t11 := (tdiv_w (d := cc f g) p11.2.1 p11.2.2).1
  have t12 := (tdiv_w (d := cc f g) p12.2.1 p12.2.2).1
  have t20 := (tdiv_w (d := cc f g) p20.2.1 p20.2.2).1
  have t21 := (tdiv_w (d := cc f g) p21.2.1 p21.2.2).1
  have t22 := (tdiv_w (d := cc f g) p22.2.1 p22.2.2).1
  have gc : gmI ((g.get 9).int * (f.get 9).int) (pr g f 0 0) (pr g f 0 1) (pr g f 0 2) (pr g f 1 0) (pr g f 1 1) (pr g f 1 2) (pr g f 2 0) (pr g f 2 1) (pr g f 2 2) = cc f g := rfl
  have q := den_in gd.1 gd.2 fd.1 fd.2
  have tq := (tdiv_w (u := (g.get 9).int * (f.get 9).int) (d := cc f g) (by omega) (by omega)).1
  rw [u0.1] at z0
  rw [u1.1] at z1
  rw [u2.1] at z2
  have t0 := tdiv_w (d := (g.get 9).int) u0.2.1 u0.2.2
  have t1 := tdiv_w (d := (g.get 9).int) u1.2.1 u1.2.2
  have t2 := tdiv_w (d := (g.get 9).int) u2.2.1 u2.2.2
  simp only [p00.1, p01.1, p02.1, p10.1, p11.1, p12.1, p20.1, p21.1, p22.1, q.1, gc, t00, t01, t02, t10, t11, t12, t20, t21, t22, tq, u0.1, u1.1, u2.1, t0.1, t1.1, t2.1] at hb
  rw [w64 (n := _ + (g.get 10).int) (by omega) (by omega), w64 (n := _ + (g.get 11).int) (by omega) (by omega), w64 (n := _ + (g.get 12).int) (by omega) (by omega)] at hb
  refine ⟨hf, hg, fun i => (dS g f i).tdiv (g.get 9).int, fun i hi => ?_, hb⟩
  have : i = 0 ∨ i = 1 ∨ i = 2 := by omega
  rcases this with rfl | rfl | rfl
  · exact (Int.mul_tdiv_cancel' (Int.dvd_of_tmod_eq_zero z0)).symm
  · exact (Int.mul_tdiv_cancel' (Int.dvd_of_tmod_eq_zero z1)).symm
  · exact (Int.mul_tdiv_cancel' (Int.dvd_of_tmod_eq_zero z2)).symm
end
theorem alg1 {D m0 m1 m2 m3 m4 m5 m6 m7 m8 v0 v1 v2 q0 q1 q2 s0 s1 s2 r0 : Int} (hD : 1 ≤ D) (h0 : m0 * v0 + m1 * v1 + m2 * v2 = D * q0) (h1 : m3 * v0 + m4 * v1 + m5 * v2 = D * q1) (h2 : m6 * v0 + m7 * v1 + m8 * v2 = D * q2)
    (t0 : m0 * s0 + m3 * s1 + m6 * s2 = D * r0) (c0 : m0 * m0 + m3 * m3 + m6 * m6 = D * D) (c1 : m0 * m1 + m3 * m4 + m6 * m7 = 0) (c2 : m0 * m2 + m3 * m5 + m6 * m8 = 0) :
    m0 * (q0 + s0) + m3 * (q1 + s1) + m6 * (q2 + s2) = D * (v0 + r0) := by
  refine Int.eq_of_mul_eq_mul_left (show D ≠ 0 by omega) ?_
  have id : D * (m0 * (q0 + s0) + m3 * (q1 + s1) + m6 * (q2 + s2)) = m0 * (D * q0) + m3 * (D * q1) + m6 * (D * q2) + D * (m0 * s0 + m3 * s1 + m6 * s2) := by grind
  rw [id, t0, ← h0, ← h1, ← h2]
  have id2 : m0 * (m0 * v0 + m1 * v1 + m2 * v2) + m3 * (m3 * v0 + m4 * v1 + m5 * v2) + m6 * (m6 * v0 + m7 * v1 + m8 * v2) = (m0 * m0 + m3 * m3 + m6 * m6) * v0 + (m0 * m1 + m3 * m4 + m6 * m7) * v1 + (m0 * m2 + m3 * m5 + m6 * m8) * v2 := by grind
  rw [id2, c0, c1, c2]
  grind
theorem alg2 {D m0 m1 m2 m3 m4 m5 m6 m7 m8 s0 s1 s2 r0 r1 r2 : Int} (hD : 1 ≤ D) (t0 : m0 * s0 + m3 * s1 + m6 * s2 = D * r0) (t1 : m1 * s0 + m4 * s1 + m7 * s2 = D * r1) (t2 : m2 * s0 + m5 * s1 + m8 * s2 = D * r2)
    (o0 : m0 * m0 + m1 * m1 + m2 * m2 = D * D) (o1 : m0 * m3 + m1 * m4 + m2 * m5 = 0) (o2 : m0 * m6 + m1 * m7 + m2 * m8 = 0) :
    m0 * -r0 + m1 * -r1 + m2 * -r2 = D * -s0 := by
  refine Int.eq_of_mul_eq_mul_left (show D ≠ 0 by omega) ?_
  have id : D * (m0 * -r0 + m1 * -r1 + m2 * -r2) = -(m0 * (D * r0) + m1 * (D * r1) + m2 * (D * r2)) := by grind
  rw [id, ← t0, ← t1, ← t2]
  have id2 : m0 * (m0 * s0 + m3 * s1 + m6 * s2) + m1 * (m1 * s0 + m4 * s1 + m7 * s2) + m2 * (m2 * s0 + m5 * s1 + m8 * s2) = (m0 * m0 + m1 * m1 + m2 * m2) * s0 + (m0 * m3 + m1 * m4 + m2 * m5) * s1 + (m0 * m6 + m1 * m7 + m2 * m8) * s2 := by grind
  rw [id2, o0, o1, o2]
  grind
/-- a product of two: v = E t with E = A B, w = (A-frame's) .. -/
theorem alg3 {A B a0 a1 a2 a3 a4 a5 a6 a7 a8 b0 b1 b2 t0 t1 t2 w0 w1 w2 s0 s1 s2 q0 q1 q2 r0 : Int} (hA : 1 ≤ A) (_hB : 1 ≤ B)
    (h0 : a0 * (A * B * t0) + a1 * (A * B * t1) + a2 * (A * B * t2) = A * q0) (h1 : a3 * (A * B * t0) + a4 * (A * B * t1) + a5 * (A * B * t2) = A * q1) (h2 : a6 * (A * B * t0) + a7 * (A * B * t1) + a8 * (A * B * t2) = A * q2)
    (k0 : b0 * s0 + b1 * s1 + b2 * s2 = B * r0) (e0 : w0 = q0 + s0) (e1 : w1 = q1 + s1) (e2 : w2 = q2 + s2) :
    b0 * w0 + b1 * w1 + b2 * w2 = B * (((b0 * a0 + b1 * a3 + b2 * a6) * t0 + (b0 * a1 + b1 * a4 + b2 * a7) * t1 + (b0 * a2 + b1 * a5 + b2 * a8) * t2) + r0) := by
  have f0 : q0 = B * (a0 * t0 + a1 * t1 + a2 * t2) := Int.eq_of_mul_eq_mul_left (show A ≠ 0 by omega) (by rw [← h0]; grind)
  have f1 : q1 = B * (a3 * t0 + a4 * t1 + a5 * t2) := Int.eq_of_mul_eq_mul_left (show A ≠ 0 by omega) (by rw [← h1]; grind)
  have f2 : q2 = B * (a6 * t0 + a7 * t1 + a8 * t2) := Int.eq_of_mul_eq_mul_left (show A ≠ 0 by omega) (by rw [← h2]; grind)
  have id : b0 * w0 + b1 * w1 + b2 * w2 = b0 * q0 + b1 * q1 + b2 * q2 + (b0 * s0 + b1 * s1 + b2 * s2) := by rw [e0, e1, e2]; grind
  rw [id, k0, f0, f1, f2]
  grind
theorem g1_same {x : Int} (h0 : 1 ≤ x) (h1 : x ≤ 4294967296) : g1 x x = x := by
  rw [g1_gcd (by omega) (by omega), Int.gcd_self]; omega
theorem g1_zero {x : Int} (h0 : 1 ≤ x) (h1 : x ≤ 4294967296) : g1 x 0 = x := by
  rw [g1_gcd (by omega) (by omega), Int.gcd_zero_right]; omega
theorem gm_id {x : Int} (h0 : 1 ≤ x) (h1 : x ≤ 4294967296) : gmI x x 0 0 0 x 0 0 0 x = x := by
  unfold gmI
  simp only [g1_same h0 h1, g1_zero h0 h1]
theorem g1_dvd {x m : Int} (h0 : 1 ≤ x) (h1 : x ≤ 4294967296) (m0 : -4294967296 ≤ m) (m1 : m ≤ 4294967296) : g1 x m ∣ x ∧ g1 x m ∣ m := by
  rw [g1_gcd (by omega) (by omega)]
  exact ⟨Int.gcd_dvd_left .., Int.gcd_dvd_right ..⟩

end Go.Proofs.Ytjeenfnfkndgaaa
