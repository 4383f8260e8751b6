/- What leads back, and what comes after each other. -/
import Derived.Test.YtjeenfnfkndgaaaZZ
import Derived.Test.YtjeenfnfkndgaaaUX
import Derived.Test.YtjeenfnfkndgaaaRows
namespace Go.Proofs.Ytjeenfnfkndgaaa
open Go Go.Sz Go.RowKit

section
variable {T : Tab} (hF : Fs.ok F17 T)
include hF
set_option maxRecDepth 100000 in
theorem V_intro {d : D} (h : ((T 5 (D.seg 10 d 0)).get 0).bool = true) (hs : ∀ k, k < 3 → -96 ≤ (d.get (10 + k)).int ∧ (d.get (10 + k)).int ≤ 96) : VF T d := by
  have h20 : T 20 = fnOf F7 turn_valid_x := hF.tail.tail.tail.tail.tail.tail.tail.tail.tail.top
  have e5 : tabF F7 5 = T 5 := (tabF_eq hF.tail.tail.tail.tail.tail.tail.tail.tail.tail.tail (by kernel_rfl)).symm
  have h' : ((T 5 (.cons (d.get 0) (.cons (d.get 1) (.cons (d.get 2) (.cons (d.get 3) (.cons (d.get 4) (.cons (d.get 5) (.cons (d.get 6) (.cons (d.get 7) (.cons (d.get 8) (.cons (d.get 9) .nil))))))))))).get 0).bool = true := h
  have s0 : -96 ≤ (d.get 10).int ∧ (d.get 10).int ≤ 96 := hs 0 (by decide)
  have s1 : -96 ≤ (d.get 11).int ∧ (d.get 11).int ≤ 96 := hs 1 (by decide)
  have s2 : -96 ≤ (d.get 12).int ∧ (d.get 12).int ≤ 96 := hs 2 (by decide)
  unfold VF
  rw [h20, fnOf_eq]
  simp only [turn_valid_x, List.map_cons, List.map_nil, D.of, X.d, den1, den_lt, den_and, den_or, den_cons, den_get, int_i, bool_b, D.get, Int.toNat_zero, Nat.reduceAdd, envD, D.seg, gk_0, Nat.zero_add, Nat.reduceAdd, e5, h', and_t, not_t, or_f, lt_f]
  exact ⟨trivial, s0, s1, s2⟩
theorem V_five {d : D} (h : VF T d) : ((T 5 (D.seg 10 d 0)).get 0).bool = true := by
  have h20 : T 20 = fnOf F7 turn_valid_x := hF.tail.tail.tail.tail.tail.tail.tail.tail.tail.top
  have e5 : tabF F7 5 = T 5 := (tabF_eq hF.tail.tail.tail.tail.tail.tail.tail.tail.tail.tail (by kernel_rfl)).symm
  unfold VF at h
  rw [h20, fnOf_eq] at h
  simp only [turn_valid_x, List.map_cons, List.map_nil, D.of, X.d, den1, den_lt, den_and, den_or, den_cons, den_get, int_i, bool_b, D.get, Int.toNat_zero, Nat.reduceAdd, envD, D.seg, gk_0, Nat.zero_add, Nat.reduceAdd, e5, and_t] at h
  exact h.1
set_option maxRecDepth 100000 in
theorem five_congr {d d' : D} (h : ∀ k, k < 10 → (d.get k).int = (d'.get k).int) : ((T 5 (D.seg 10 d 0)).get 0).bool = ((T 5 (D.seg 10 d' 0)).get 0).bool := by
  have h5 : T 5 = fnOf F4 turn_Valid_x := hF.tail.tail.tail.tail.tail.tail.tail.tail.tail.tail.tail.tail.top
  have h2 : T 2 = mdivD := hF.tail.tail.tail.tail.tail.tail.tail.tail.tail.tail.tail.tail.tail.tail.tail.top
  have e2 : tabF F4 2 = T 2 := (tabF_eq hF.tail.tail.tail.tail.tail.tail.tail.tail.tail.tail.tail.tail.tail (by kernel_rfl)).symm
  have k0 := h 0 (by decide)
  have k1 := h 1 (by decide)
  have k2 := h 2 (by decide)
  have k3 := h 3 (by decide)
  have k4 := h 4 (by decide)
  have k5 := h 5 (by decide)
  have k6 := h 6 (by decide)
  have k7 := h 7 (by decide)
  have k8 := h 8 (by decide)
  have k9 := h 9 (by decide)
  rw [h5, fnOf_eq, fnOf_eq]
  simp only [turn_Valid_x, turn_Valid_n_q0, List.map_cons, List.map_nil, D.of, X.d, den1, den_add, den_sub, den_mul, den_lt, den_eq, den_and, den_or, den_cons, int_i, bool_b, D.get, Nat.reduceAdd, envD, D.seg, gk_0, Nat.zero_add, Nat.reduceAdd, e2, h2, mdivD, k0, k1, k2, k3, k4, k5, k6, k7, k8, k9]
theorem V_congr {d d' : D} (h : ∀ k, k < 13 → (d.get k).int = (d'.get k).int) (hv : VF T d) : VF T d' := by
  refine V_intro hF ?_ fun k hk => ?_
  · rw [← five_congr hF fun k hk => h k (by omega)]; exact V_five hF hv
  · have b0 : -96 ≤ (d.get 10).int ∧ (d.get 10).int ≤ 96 := (frame_b hF.tail.tail.tail.tail.tail.tail.tail.tail.tail hv).2.2.2 0 (by decide)
    have b1 : -96 ≤ (d.get 11).int ∧ (d.get 11).int ≤ 96 := (frame_b hF.tail.tail.tail.tail.tail.tail.tail.tail.tail hv).2.2.2 1 (by decide)
    have b2 : -96 ≤ (d.get 12).int ∧ (d.get 12).int ≤ 96 := (frame_b hF.tail.tail.tail.tail.tail.tail.tail.tail.tail hv).2.2.2 2 (by decide)
    rw [h 10 (by decide)] at b0
    rw [h 11 (by decide)] at b1
    rw [h 12 (by decide)] at b2
    have : k = 0 ∨ k = 1 ∨ k = 2 := by omega
    rcases this with rfl | rfl | rfl
    · exact b0
    · exact b1
    · exact b2
set_option maxRecDepth 100000 in
theorem valid_eq {f : D} (hv : VF T f) : (f.get 0).int * (f.get 0).int + (f.get 1).int * (f.get 1).int + (f.get 2).int * (f.get 2).int = (f.get 9).int * (f.get 9).int ∧ (f.get 0).int * (f.get 3).int + (f.get 1).int * (f.get 4).int + (f.get 2).int * (f.get 5).int = 0 ∧ (f.get 0).int * (f.get 6).int + (f.get 1).int * (f.get 7).int + (f.get 2).int * (f.get 8).int = 0 ∧ (f.get 3).int * (f.get 3).int + (f.get 4).int * (f.get 4).int + (f.get 5).int * (f.get 5).int = (f.get 9).int * (f.get 9).int ∧ (f.get 3).int * (f.get 6).int + (f.get 4).int * (f.get 7).int + (f.get 5).int * (f.get 8).int = 0 ∧ (f.get 6).int * (f.get 6).int + (f.get 7).int * (f.get 7).int + (f.get 8).int * (f.get 8).int = (f.get 9).int * (f.get 9).int := by
  have h5 : T 5 = fnOf F4 turn_Valid_x := hF.tail.tail.tail.tail.tail.tail.tail.tail.tail.tail.tail.tail.top
  have m0 : -25 ≤ (f.get 0).int ∧ (f.get 0).int ≤ 25 := frame_m hF.tail.tail.tail.tail.tail.tail.tail.tail.tail hv 0 (by decide)
  have m1 : -25 ≤ (f.get 1).int ∧ (f.get 1).int ≤ 25 := frame_m hF.tail.tail.tail.tail.tail.tail.tail.tail.tail hv 1 (by decide)
  have m2 : -25 ≤ (f.get 2).int ∧ (f.get 2).int ≤ 25 := frame_m hF.tail.tail.tail.tail.tail.tail.tail.tail.tail hv 2 (by decide)
  have m3 : -25 ≤ (f.get 3).int ∧ (f.get 3).int ≤ 25 := frame_m hF.tail.tail.tail.tail.tail.tail.tail.tail.tail hv 3 (by decide)
  have m4 : -25 ≤ (f.get 4).int ∧ (f.get 4).int ≤ 25 := frame_m hF.tail.tail.tail.tail.tail.tail.tail.tail.tail hv 4 (by decide)
  have m5 : -25 ≤ (f.get 5).int ∧ (f.get 5).int ≤ 25 := frame_m hF.tail.tail.tail.tail.tail.tail.tail.tail.tail hv 5 (by decide)
  have m6 : -25 ≤ (f.get 6).int ∧ (f.get 6).int ≤ 25 := frame_m hF.tail.tail.tail.tail.tail.tail.tail.tail.tail hv 6 (by decide)
  have m7 : -25 ≤ (f.get 7).int ∧ (f.get 7).int ≤ 25 := frame_m hF.tail.tail.tail.tail.tail.tail.tail.tail.tail hv 7 (by decide)
  have m8 : -25 ≤ (f.get 8).int ∧ (f.get 8).int ≤ 25 := frame_m hF.tail.tail.tail.tail.tail.tail.tail.tail.tail hv 8 (by decide)
  have dd : 1 ≤ (f.get 9).int ∧ (f.get 9).int ≤ 25 := ⟨(frame_b hF.tail.tail.tail.tail.tail.tail.tail.tail.tail hv).1, (frame_b hF.tail.tail.tail.tail.tail.tail.tail.tail.tail hv).2.1⟩
  have s0 : -96 ≤ (f.get 10).int ∧ (f.get 10).int ≤ 96 := (frame_b hF.tail.tail.tail.tail.tail.tail.tail.tail.tail hv).2.2.2 0 (by decide)
  have s1 : -96 ≤ (f.get 11).int ∧ (f.get 11).int ≤ 96 := (frame_b hF.tail.tail.tail.tail.tail.tail.tail.tail.tail hv).2.2.2 1 (by decide)
  have s2 : -96 ≤ (f.get 12).int ∧ (f.get 12).int ≤ 96 := (frame_b hF.tail.tail.tail.tail.tail.tail.tail.tail.tail hv).2.2.2 2 (by decide)
  have o00 := dot_in m0.1 m0.2 (Int.le_trans (by decide : (-96 : Int) ≤ -25) m0.1) (Int.le_trans m0.2 (by decide : (25 : Int) ≤ 96)) m1.1 m1.2 (Int.le_trans (by decide : (-96 : Int) ≤ -25) m1.1) (Int.le_trans m1.2 (by decide : (25 : Int) ≤ 96)) m2.1 m2.2 (Int.le_trans (by decide : (-96 : Int) ≤ -25) m2.1) (Int.le_trans m2.2 (by decide : (25 : Int) ≤ 96))
  have o01 := dot_in m0.1 m0.2 (Int.le_trans (by decide : (-96 : Int) ≤ -25) m3.1) (Int.le_trans m3.2 (by decide : (25 : Int) ≤ 96)) m1.1 m1.2 (Int.le_trans (by decide : (-96 : Int) ≤ -25) m4.1) (Int.le_trans m4.2 (by decide : (25 : Int) ≤ 96)) m2.1 m2.2 (Int.le_trans (by decide : (-96 : Int) ≤ -25) m5.1) (Int.le_trans m5.2 (by decide : (25 : Int) ≤ 96))
  have o02 := dot_in m0.1 m0.2 (Int.le_trans (by decide : (-96 : Int) ≤ -25) m6.1) (Int.le_trans m6.2 (by decide : (25 : Int) ≤ 96)) m1.1 m1.2 (Int.le_trans (by decide : (-96 : Int) ≤ -25) m7.1) (Int.le_trans m7.2 (by decide : (25 : Int) ≤ 96)) m2.1 m2.2 (Int.le_trans (by decide : (-96 : Int) ≤ -25) m8.1) (Int.le_trans m8.2 (by decide : (25 : Int) ≤ 96))
  have o11 := dot_in m3.1 m3.2 (Int.le_trans (by decide : (-96 : Int) ≤ -25) m3.1) (Int.le_trans m3.2 (by decide : (25 : Int) ≤ 96)) m4.1 m4.2 (Int.le_trans (by decide : (-96 : Int) ≤ -25) m4.1) (Int.le_trans m4.2 (by decide : (25 : Int) ≤ 96)) m5.1 m5.2 (Int.le_trans (by decide : (-96 : Int) ≤ -25) m5.1) (Int.le_trans m5.2 (by decide : (25 : Int) ≤ 96))
  have o12 := dot_in m3.1 m3.2 (Int.le_trans (by decide : (-96 : Int) ≤ -25) m6.1) (Int.le_trans m6.2 (by decide : (25 : Int) ≤ 96)) m4.1 m4.2 (Int.le_trans (by decide : (-96 : Int) ≤ -25) m7.1) (Int.le_trans m7.2 (by decide : (25 : Int) ≤ 96)) m5.1 m5.2 (Int.le_trans (by decide : (-96 : Int) ≤ -25) m8.1) (Int.le_trans m8.2 (by decide : (25 : Int) ≤ 96))
  have o22 := dot_in m6.1 m6.2 (Int.le_trans (by decide : (-96 : Int) ≤ -25) m6.1) (Int.le_trans m6.2 (by decide : (25 : Int) ≤ 96)) m7.1 m7.2 (Int.le_trans (by decide : (-96 : Int) ≤ -25) m7.1) (Int.le_trans m7.2 (by decide : (25 : Int) ≤ 96)) m8.1 m8.2 (Int.le_trans (by decide : (-96 : Int) ≤ -25) m8.1) (Int.le_trans m8.2 (by decide : (25 : Int) ≤ 96))
  have q := den_in dd.1 dd.2 dd.1 dd.2
  have h := V_five hF hv
  rw [h5, fnOf_eq] at h
  simp only [turn_Valid_x, turn_Valid_n_q0, List.map_cons, List.map_nil, D.of, X.d, den1, den_add, den_sub, den_mul, den_lt, den_eq, den_and, den_or, den_cons, int_i, bool_b, D.get, Nat.reduceAdd, envD, D.seg, gk_0, Nat.zero_add, Nat.reduceAdd, and_t, eq_t, w_zero, o00.1, o01.1, o02.1, o11.1, o12.1, o22.1, q.1] at h
  obtain ⟨-, ⟨z00, z01, z02, -, z11, z12, -, -, z22⟩, -⟩ := h
  exact ⟨z00, z01, z02, z11, z12, z22⟩
theorem id_v {d : D} (h : ∀ k, k < 13 → (d.get k).int = if k = 0 ∨ k = 4 ∨ k = 8 ∨ k = 9 then 1 else 0) : VF T d := by
  have e5 : T 5 = tabF F16 5 := tabF_eq hF.tail (by kernel_rfl)
  refine V_congr hF (d := (.cons (.i 1) (.cons (.i 0) (.cons (.i 0) (.cons (.i 0) (.cons (.i 1) (.cons (.i 0) (.cons (.i 0) (.cons (.i 0) (.cons (.i 1) (.cons (.i 1) (.cons (.i 0) (.cons (.i 0) (.cons (.i 0) .nil)))))))))))))) (fun k hk => ?_) (V_intro hF ?_ fun k hk => ?_)
  · rw [h k hk]
    have : k = 0 ∨ k = 1 ∨ k = 2 ∨ k = 3 ∨ k = 4 ∨ k = 5 ∨ k = 6 ∨ k = 7 ∨ k = 8 ∨ k = 9 ∨ k = 10 ∨ k = 11 ∨ k = 12 := by omega
    rcases this with rfl | rfl | rfl | rfl | rfl | rfl | rfl | rfl | rfl | rfl | rfl | rfl | rfl <;> rfl
  · rw [e5]; kernel_rfl
  · have : k = 0 ∨ k = 1 ∨ k = 2 := by omega
    rcases this with rfl | rfl | rfl <;> exact ⟨by decide, by decide⟩
theorem vec_b (L a : D) : ∀ k, k < 3 → -4 ≤ ((T 23 (.cons L (.cons a (.cons (.i 4) .nil)))).get k).int ∧ ((T 23 (.cons L (.cons a (.cons (.i 4) .nil)))).get k).int ≤ 4 := by
  have h23 : T 23 = fnOf F14 r07_Vec_w_x := hF.tail.tail.top
  have h22 : T 22 = fnOf F13 r01_Draw_Next_w_x := hF.tail.tail.tail.top
  have e22 : tabF F14 22 = T 22 := (tabF_eq hF.tail.tail.tail (by kernel_rfl)).symm
  intro k hk
  rw [h23, fnOf_eq]
  simp only [r07_Vec_w_x, r07_Vec_w_n_q0, r07_Vec_w_n_q1, r07_Vec_w_n_q2, r07_Vec_w_n_q3, List.map_cons, List.map_nil, D.of, X.d, den_add, den_sub, den_mul, den_cons, den_get, int_i, D.get, Int.toNat_zero, envD, tn_2, e22]
  have key : ∀ L a : D, -4 ≤ IntKind.i64.wrap (((T 22 (.cons L (.cons a (.cons (.i (IntKind.i64.wrap (IntKind.i64.wrap (2 * 4) + 1))) .nil)))).get 0).int - 4) ∧ IntKind.i64.wrap (((T 22 (.cons L (.cons a (.cons (.i (IntKind.i64.wrap (IntKind.i64.wrap (2 * 4) + 1))) .nil)))).get 0).int - 4) ≤ 4 := by
    intro L a
    have b := next_v h22 L a (.i (IntKind.i64.wrap (IntKind.i64.wrap (2 * 4) + 1))) (by decide) (by decide)
    have e : D.int (.i (IntKind.i64.wrap (IntKind.i64.wrap (2 * 4) + 1))) = 9 := by decide
    rw [e] at b
    rw [w64 (by omega) (by omega)]; omega
  have : k = 0 ∨ k = 1 ∨ k = 2 := by omega
  rcases this with rfl | rfl | rfl <;> exact key _ _
/-- a made frame is valid, with a small shift -/
theorem made_s (L : D) : ∀ k, k < 3 → -4 ≤ ((T 24 (.cons L .nil)).get (10 + k)).int ∧ ((T 24 (.cons L .nil)).get (10 + k)).int ≤ 4 := by
  have h24 : T 24 = fnOf F16 r11_Frames_w_x := hF.top
  have e23 : tabF F16 23 = T 23 := (tabF_eq hF.tail (by kernel_rfl)).symm
  intro k hk
  rw [h24, fnOf_eq]
  have : k = 0 ∨ k = 1 ∨ k = 2 := by omega
  rcases this with rfl | rfl | rfl
  · show -4 ≤ ((tabF F16 23 (.cons _ (.cons _ (.cons (.i 4) .nil)))).get 0).int ∧ ((tabF F16 23 (.cons _ (.cons _ (.cons (.i 4) .nil)))).get 0).int ≤ 4
    rw [e23]; exact vec_b hF _ _ 0 (by decide)
  · show -4 ≤ ((tabF F16 23 (.cons _ (.cons _ (.cons (.i 4) .nil)))).get 1).int ∧ ((tabF F16 23 (.cons _ (.cons _ (.cons (.i 4) .nil)))).get 1).int ≤ 4
    rw [e23]; exact vec_b hF _ _ 1 (by decide)
  · show -4 ≤ ((tabF F16 23 (.cons _ (.cons _ (.cons (.i 4) .nil)))).get 2).int ∧ ((tabF F16 23 (.cons _ (.cons _ (.cons (.i 4) .nil)))).get 2).int ≤ 4
    rw [e23]; exact vec_b hF _ _ 2 (by decide)
theorem made_v (L : D) : VF T (T 24 (.cons L .nil)) := V_intro hF (by rw [frames_v hF]; rfl) fun k hk => by have := made_s hF L k hk; omega
end
theorem unit_row {a b c x y z K : Int} (h : a * a + b * b + c * c = 1) (a0 : -1 ≤ a) (a1 : a ≤ 1) (b0 : -1 ≤ b) (b1 : b ≤ 1) (c0 : -1 ≤ c) (c1 : c ≤ 1) (x0 : -K ≤ x) (x1 : x ≤ K) (y0 : -K ≤ y) (y1 : y ≤ K) (z0 : -K ≤ z) (z1 : z ≤ K) : -K ≤ a * x + b * y + c * z ∧ a * x + b * y + c * z ≤ K := by
  have ha : a = -1 ∨ a = 0 ∨ a = 1 := by omega
  have hb : b = -1 ∨ b = 0 ∨ b = 1 := by omega
  have hc : c = -1 ∨ c = 0 ∨ c = 1 := by omega
  rcases ha with rfl | rfl | rfl <;> rcases hb with rfl | rfl | rfl <;> rcases hc with rfl | rfl | rfl <;> simp at h <;> constructor <;> omega
theorem row_le {a b c x y z d : Int} (d0 : 1 ≤ d) (a0 : -d ≤ a) (a1 : a ≤ d) (b0 : -d ≤ b) (b1 : b ≤ d) (c0 : -d ≤ c) (c1 : c ≤ d) (x0 : -4 ≤ x) (x1 : x ≤ 4) (y0 : -4 ≤ y) (y1 : y ≤ 4) (z0 : -4 ≤ z) (z1 : z ≤ 4) {q : Int} (h : a * x + b * y + c * z = d * q) : -12 ≤ q ∧ q ≤ 12 := by
  have h1 := mul_in (A := d.toNat) (B := 4) (a := a) (b := x) (by omega) (by omega) (by omega) (by omega)
  have h2 := mul_in (A := d.toNat) (B := 4) (a := b) (b := y) (by omega) (by omega) (by omega) (by omega)
  have h3 := mul_in (A := d.toNat) (B := 4) (a := c) (b := z) (by omega) (by omega) (by omega) (by omega)
  have e : ((d.toNat * 4 : Nat) : Int) = d * 4 := by omega
  rw [e] at h1 h2 h3
  constructor
  · refine Int.le_of_mul_le_mul_left (a := d) ?_ (by omega)
    rw [← h]; omega
  · refine Int.le_of_mul_le_mul_left (a := d) ?_ (by omega)
    rw [← h]; omega
theorem sw3 {a b c d : Int} (h : a + b + c = d) : b + a + c = d := by omega
theorem ro3 {a b c d : Int} (h : a + b + c = d) : c + a + b = d := by omega
theorem co3 {a b c d e f x : Int} (h : a * b + c * d + e * f = x) : b * a + d * c + f * e = x := by rw [Int.mul_comm b a, Int.mul_comm d c, Int.mul_comm f e]; exact h
theorem lt3 {i : Nat} (h : i < 3) : i = 0 ∨ i = 1 ∨ i = 2 := by omega
/-- the way of a point -/
def qF (f g : D) (t : Nat → Int) (i : Nat) : Int := (g.get 9).int * ((f.get (3 * i)).int * t 0 + (f.get (3 * i + 1)).int * t 1 + (f.get (3 * i + 2)).int * t 2)
def wF (f g : D) (t : Nat → Int) : D := .cons (.i (qF f g t 0 + (f.get 10).int)) (.cons (.i (qF f g t 1 + (f.get 11).int)) (.cons (.i (qF f g t 2 + (f.get 12).int)) (.cons (.b true) .nil)))
section
variable {T : Tab} (hF : Fs.ok F17 T) {f g v : D} {t : Nat → Int} (hf : VF T f) (hg : VF T g) (fs : ∀ k, k < 3 → -4 ≤ (f.get (10 + k)).int ∧ (f.get (10 + k)).int ≤ 4) (gs : ∀ k, k < 3 → -4 ≤ (g.get (10 + k)).int ∧ (g.get (10 + k)).int ≤ 4)
  (hv : ∀ k, k < 3 → (v.get k).int = (f.get 9).int * (g.get 9).int * t k) (hw : ∀ k, k < 3 → -4 ≤ (v.get k).int ∧ (v.get k).int ≤ 4)
include hv in
theorem dt_q (i : Nat) : dt f v i = (f.get 9).int * qF f g t i := by
  unfold dt qF
  rw [hv 0 (by decide), hv 1 (by decide), hv 2 (by decide)]
  grind
include hF hf hv hw in
theorem q_le (i : Nat) (hi : i < 3) : -12 ≤ qF f g t i ∧ qF f g t i ≤ 12 := by
  obtain ⟨d0, -, m, -⟩ := frame_b hF.tail.tail.tail.tail.tail.tail.tail.tail.tail hf
  have d0 : 1 ≤ (f.get 9).int := d0
  have k : ∀ k, k < 9 → -(f.get 9).int ≤ (f.get k).int ∧ (f.get k).int ≤ (f.get 9).int := fun k hk => by
    have h := m k hk
    have : k = 0 ∨ k = 1 ∨ k = 2 ∨ k = 3 ∨ k = 4 ∨ k = 5 ∨ k = 6 ∨ k = 7 ∨ k = 8 := by omega
    rcases this with rfl | rfl | rfl | rfl | rfl | rfl | rfl | rfl | rfl <;> exact h
  have a := k (3 * i) (by omega)
  have b := k (3 * i + 1) (by omega)
  have c := k (3 * i + 2) (by omega)
  have x := hw 0 (by decide)
  have y := hw 1 (by decide)
  have z := hw 2 (by decide)
  exact row_le d0 a.1 a.2 b.1 b.2 c.1 c.2 x.1 x.2 y.1 y.2 z.1 z.2 (dt_q hv i)
include hF hf hv hw fs in
theorem one_ok : T 8 (D.app (D.seg 13 f 0) (D.seg 3 v 0)) = wF f g t := by
  refine apply_ok hF hf (fun i hi => ?_) (qF f g t) (fun i _ => dt_q hv i) (fun i hi => ?_)
  · have := hw i hi; omega
  · have a := q_le hF hf hv hw i hi
    have b := fs i hi
    omega
include hF hf hv hw fs in
theorem w_le (i : Nat) (hi : i < 3) : -24 ≤ ((wF f g t).get i).int ∧ ((wF f g t).get i).int ≤ 24 := by
  have a := q_le hF hf hv hw i hi
  have b := fs i hi
  rcases lt3 hi with rfl | rfl | rfl
  · show -24 ≤ qF f g t 0 + (f.get 10).int ∧ qF f g t 0 + (f.get 10).int ≤ 24
    have b : -4 ≤ (f.get 10).int ∧ (f.get 10).int ≤ 4 := b
    omega
  · show -24 ≤ qF f g t 1 + (f.get 11).int ∧ qF f g t 1 + (f.get 11).int ≤ 24
    have b : -4 ≤ (f.get 11).int ∧ (f.get 11).int ≤ 4 := b
    omega
  · show -24 ≤ qF f g t 2 + (f.get 12).int ∧ qF f g t 2 + (f.get 12).int ≤ 24
    have b : -4 ≤ (f.get 12).int ∧ (f.get 12).int ≤ 4 := b
    omega
include hF hf hv hw fs in
/-- where there is a way back -/
theorem two_ok (h2 : ((T 10 (D.seg 13 f 0)).get 13).bool = true) :
    let b := T 10 (D.seg 13 f 0)
    let x := T 8 (D.app (D.seg 13 b 0) (D.seg 3 (T 8 (D.app (D.seg 13 f 0) (D.seg 3 v 0))) 0))
    let a := T 10 (D.seg 13 b 0)
    let o := T 11 (D.app (D.seg 13 f 0) (D.seg 13 b 0))
    let y := T 8 (D.app (D.seg 13 o 0) (D.seg 3 v 0))
    ((x.get 3).bool = true ∧ ∀ k, k < 3 → (x.get k).int = (v.get k).int) ∧ ((a.get 13).bool = true ∧ ∀ k, k < 13 → (a.get k).int = (f.get k).int) ∧ (o.get 13).bool = true ∧ (y.get 3).bool = true ∧ ∀ k, k < 3 → (y.get k).int = (v.get k).int := by
  obtain ⟨-, r, hr, hb⟩ := back_inv hF h2
  have e2 := back_ok hF hf r hr hb
  have d0 : 1 ≤ (f.get 9).int := (frame_b hF.tail.tail.tail.tail.tail.tail.tail.tail.tail hf).1
  have d1 : (f.get 9).int ≤ 25 := (frame_b hF.tail.tail.tail.tail.tail.tail.tail.tail.tail hf).2.1
  have z0 : (v.get 0).int = _ := hv 0 (by decide)
  have h0 : (f.get 0).int * (v.get 0).int + (f.get 1).int * (v.get 1).int + (f.get 2).int * (v.get 2).int = (f.get 9).int * qF f g t 0 := dt_q hv 0
  have h1 : (f.get 3).int * (v.get 0).int + (f.get 4).int * (v.get 1).int + (f.get 5).int * (v.get 2).int = (f.get 9).int * qF f g t 1 := dt_q hv 1
  have h3 : (f.get 6).int * (v.get 0).int + (f.get 7).int * (v.get 1).int + (f.get 8).int * (v.get 2).int = (f.get 9).int * qF f g t 2 := dt_q hv 2
  have t0 : (f.get 0).int * (f.get 10).int + (f.get 3).int * (f.get 11).int + (f.get 6).int * (f.get 12).int = (f.get 9).int * r 0 := hr 0 (by decide)
  have t1 : (f.get 1).int * (f.get 10).int + (f.get 4).int * (f.get 11).int + (f.get 7).int * (f.get 12).int = (f.get 9).int * r 1 := hr 1 (by decide)
  have t2 : (f.get 2).int * (f.get 10).int + (f.get 5).int * (f.get 11).int + (f.get 8).int * (f.get 12).int = (f.get 9).int * r 2 := hr 2 (by decide)
  obtain ⟨c00, c01, c02, c11, c12, c22⟩ := valid_eq hF hb
  obtain ⟨o00, o01, o02, o11, o12, o22⟩ := valid_eq hF hf
  have c00 : (f.get 0).int * (f.get 0).int + (f.get 3).int * (f.get 3).int + (f.get 6).int * (f.get 6).int = (f.get 9).int * (f.get 9).int := c00
  have c01 : (f.get 0).int * (f.get 1).int + (f.get 3).int * (f.get 4).int + (f.get 6).int * (f.get 7).int = 0 := c01
  have c02 : (f.get 0).int * (f.get 2).int + (f.get 3).int * (f.get 5).int + (f.get 6).int * (f.get 8).int = 0 := c02
  have c11 : (f.get 1).int * (f.get 1).int + (f.get 4).int * (f.get 4).int + (f.get 7).int * (f.get 7).int = (f.get 9).int * (f.get 9).int := c11
  have c12 : (f.get 1).int * (f.get 2).int + (f.get 4).int * (f.get 5).int + (f.get 7).int * (f.get 8).int = 0 := c12
  have c22 : (f.get 2).int * (f.get 2).int + (f.get 5).int * (f.get 5).int + (f.get 8).int * (f.get 8).int = (f.get 9).int * (f.get 9).int := c22
  have ex := apply_ok hF hb (v := wF f g t) (w_le hF hf fs hv hw) (fun i => (v.get i).int + r i) (fun i hi => by
    rcases lt3 hi with rfl | rfl | rfl
    · exact alg1 d0 h0 h1 h3 t0 c00 c01 c02
    · exact alg1 (m0 := (f.get 1).int) (m1 := (f.get 0).int) (m2 := (f.get 2).int) (m3 := (f.get 4).int) (m4 := (f.get 3).int) (m5 := (f.get 5).int) (m6 := (f.get 7).int) (m7 := (f.get 6).int) (m8 := (f.get 8).int) (v0 := (v.get 1).int) (v1 := (v.get 0).int) (v2 := (v.get 2).int) (s0 := (f.get 10).int) (s1 := (f.get 11).int) (s2 := (f.get 12).int) d0 (sw3 h0) (sw3 h1) (sw3 h3) t1 c11 (co3 c01) c12
    · exact alg1 (m0 := (f.get 2).int) (m1 := (f.get 0).int) (m2 := (f.get 1).int) (m3 := (f.get 5).int) (m4 := (f.get 3).int) (m5 := (f.get 4).int) (m6 := (f.get 8).int) (m7 := (f.get 6).int) (m8 := (f.get 7).int) (v0 := (v.get 2).int) (v1 := (v.get 0).int) (v2 := (v.get 1).int) (s0 := (f.get 10).int) (s1 := (f.get 11).int) (s2 := (f.get 12).int) d0 (ro3 h0) (ro3 h1) (ro3 h3) t2 c22 (co3 c02) (co3 c12)) (fun i hi => by
    have a := hw i hi
    rcases lt3 hi with rfl | rfl | rfl
    · show -24 ≤ (v.get 0).int + r 0 + -(r 0) ∧ (v.get 0).int + r 0 + -(r 0) ≤ 24
      omega
    · show -24 ≤ (v.get 1).int + r 1 + -(r 1) ∧ (v.get 1).int + r 1 + -(r 1) ≤ 24
      omega
    · show -24 ≤ (v.get 2).int + r 2 + -(r 2) ∧ (v.get 2).int + r 2 + -(r 2) ≤ 24
      omega)
  have ev : T 10 (D.seg 13 (bk f r) 0) = (bk (bk f r) fun i => -(f.get (10 + i)).int).app (.cons (.b true) .nil) := by
    refine back_ok hF hb _ (fun i hi => ?_) (V_congr hF (fun k hk => ?_) hf)
    · rcases lt3 hi with rfl | rfl | rfl
      · exact alg2 d0 t0 t1 t2 o00 o01 o02
      · exact alg2 (m0 := (f.get 3).int) (m1 := (f.get 4).int) (m2 := (f.get 5).int) (m3 := (f.get 0).int) (m4 := (f.get 1).int) (m5 := (f.get 2).int) (m6 := (f.get 6).int) (m7 := (f.get 7).int) (m8 := (f.get 8).int) (s0 := (f.get 11).int) (s1 := (f.get 10).int) (s2 := (f.get 12).int) d0 (sw3 t0) (sw3 t1) (sw3 t2) o11 (co3 o01) o12
      · exact alg2 (m0 := (f.get 6).int) (m1 := (f.get 7).int) (m2 := (f.get 8).int) (m3 := (f.get 0).int) (m4 := (f.get 1).int) (m5 := (f.get 2).int) (m6 := (f.get 3).int) (m7 := (f.get 4).int) (m8 := (f.get 5).int) (s0 := (f.get 12).int) (s1 := (f.get 10).int) (s2 := (f.get 11).int) d0 (ro3 t0) (ro3 t1) (ro3 t2) o22 (co3 o02) (co3 o12)
    · have : k = 0 ∨ k = 1 ∨ k = 2 ∨ k = 3 ∨ k = 4 ∨ k = 5 ∨ k = 6 ∨ k = 7 ∨ k = 8 ∨ k = 9 ∨ k = 10 ∨ k = 11 ∨ k = 12 := by omega
      rcases this with rfl | rfl | rfl | rfl | rfl | rfl | rfl | rfl | rfl | rfl | rfl | rfl | rfl
      · rfl
      · rfl
      · rfl
      · rfl
      · rfl
      · rfl
      · rfl
      · rfl
      · rfl
      · rfl
      · exact (Int.neg_neg _).symm
      · exact (Int.neg_neg _).symm
      · exact (Int.neg_neg _).symm
  have q := den_in d0 d1 d0 d1
  have gc : cc f (bk f r) = (f.get 9).int * (f.get 9).int := by
    have p00 : pr (bk f r) f 0 0 = (f.get 9).int * (f.get 9).int := c00
    have p01 : pr (bk f r) f 0 1 = 0 := c01
    have p02 : pr (bk f r) f 0 2 = 0 := c02
    have p10 : pr (bk f r) f 1 0 = 0 := co3 c01
    have p11 : pr (bk f r) f 1 1 = (f.get 9).int * (f.get 9).int := c11
    have p12 : pr (bk f r) f 1 2 = 0 := c12
    have p20 : pr (bk f r) f 2 0 = 0 := co3 c02
    have p21 : pr (bk f r) f 2 1 = 0 := co3 c12
    have p22 : pr (bk f r) f 2 2 = (f.get 9).int * (f.get 9).int := c22
    show gmI ((f.get 9).int * (f.get 9).int) (pr (bk f r) f 0 0) (pr (bk f r) f 0 1) (pr (bk f r) f 0 2) (pr (bk f r) f 1 0) (pr (bk f r) f 1 1) (pr (bk f r) f 1 2) (pr (bk f r) f 2 0) (pr (bk f r) f 2 1) (pr (bk f r) f 2 2) = _
    rw [p00, p01, p02, p10, p11, p12, p20, p21, p22]
    exact gm_id (by omega) (by omega)
  have g1' : Int.tdiv ((f.get 9).int * (f.get 9).int) (cc f (bk f r)) = 1 := by rw [gc]; exact Int.tdiv_self (by omega)
  have g0 : Int.tdiv 0 (cc f (bk f r)) = 0 := Int.zero_tdiv _
  have ai : ∀ k, k < 13 → ((af f (bk f r) r).get k).int = if k = 0 ∨ k = 4 ∨ k = 8 ∨ k = 9 then 1 else 0 := by
    intro k hk
    have : k = 0 ∨ k = 1 ∨ k = 2 ∨ k = 3 ∨ k = 4 ∨ k = 5 ∨ k = 6 ∨ k = 7 ∨ k = 8 ∨ k = 9 ∨ k = 10 ∨ k = 11 ∨ k = 12 := by omega
    rcases this with rfl | rfl | rfl | rfl | rfl | rfl | rfl | rfl | rfl | rfl | rfl | rfl | rfl
    · show Int.tdiv (pr (bk f r) f 0 0) _ = 1
      rw [show pr (bk f r) f 0 0 = (f.get 9).int * (f.get 9).int from c00]; exact g1'
    · show Int.tdiv (pr (bk f r) f 0 1) _ = 0
      rw [show pr (bk f r) f 0 1 = 0 from c01]; exact g0
    · show Int.tdiv (pr (bk f r) f 0 2) _ = 0
      rw [show pr (bk f r) f 0 2 = 0 from c02]; exact g0
    · show Int.tdiv (pr (bk f r) f 1 0) _ = 0
      rw [show pr (bk f r) f 1 0 = 0 from co3 c01]; exact g0
    · show Int.tdiv (pr (bk f r) f 1 1) _ = 1
      rw [show pr (bk f r) f 1 1 = (f.get 9).int * (f.get 9).int from c11]; exact g1'
    · show Int.tdiv (pr (bk f r) f 1 2) _ = 0
      rw [show pr (bk f r) f 1 2 = 0 from c12]; exact g0
    · show Int.tdiv (pr (bk f r) f 2 0) _ = 0
      rw [show pr (bk f r) f 2 0 = 0 from co3 c02]; exact g0
    · show Int.tdiv (pr (bk f r) f 2 1) _ = 0
      rw [show pr (bk f r) f 2 1 = 0 from co3 c12]; exact g0
    · show Int.tdiv (pr (bk f r) f 2 2) _ = 1
      rw [show pr (bk f r) f 2 2 = (f.get 9).int * (f.get 9).int from c22]; exact g1'
    · exact g1'
    · show r 0 + -(r 0) = 0
      omega
    · show r 1 + -(r 1) = 0
      omega
    · show r 2 + -(r 2) = 0
      omega
  have va := id_v hF ai
  have eo := after_ok hF hf hb r (fun i hi => by
    rcases lt3 hi with rfl | rfl | rfl
    · exact t0
    · exact t1
    · exact t2) va
  have ey := apply_ok hF va (v := v) (fun i hi => by have := hw i hi; omega) (fun i => (v.get i).int) (fun i hi => by
    have a9 : ((af f (bk f r) r).get 9).int = 1 := ai 9 (by decide)
    rw [a9]
    rcases lt3 hi with rfl | rfl | rfl
    · have a0 : ((af f (bk f r) r).get 0).int = 1 := ai 0 (by decide)
      have a1 : ((af f (bk f r) r).get 1).int = 0 := ai 1 (by decide)
      have a2 : ((af f (bk f r) r).get 2).int = 0 := ai 2 (by decide)
      show ((af f (bk f r) r).get 0).int * _ + ((af f (bk f r) r).get 1).int * _ + ((af f (bk f r) r).get 2).int * _ = _
      rw [a0, a1, a2]; omega
    · have a0 : ((af f (bk f r) r).get 3).int = 0 := ai 3 (by decide)
      have a1 : ((af f (bk f r) r).get 4).int = 1 := ai 4 (by decide)
      have a2 : ((af f (bk f r) r).get 5).int = 0 := ai 5 (by decide)
      show ((af f (bk f r) r).get 3).int * _ + ((af f (bk f r) r).get 4).int * _ + ((af f (bk f r) r).get 5).int * _ = _
      rw [a0, a1, a2]; omega
    · have a0 : ((af f (bk f r) r).get 6).int = 0 := ai 6 (by decide)
      have a1 : ((af f (bk f r) r).get 7).int = 0 := ai 7 (by decide)
      have a2 : ((af f (bk f r) r).get 8).int = 1 := ai 8 (by decide)
      show ((af f (bk f r) r).get 6).int * _ + ((af f (bk f r) r).get 7).int * _ + ((af f (bk f r) r).get 8).int * _ = _
      rw [a0, a1, a2]; omega) (fun i hi => by
    have a := hw i hi
    have := ai (10 + i) (by omega)
    rw [this, if_neg (by omega)]; omega)
  have b0 : ((af f (bk f r) r).get 10).int = 0 := ai 10 (by decide)
  have b1 : ((af f (bk f r) r).get 11).int = 0 := ai 11 (by decide)
  have b2 : ((af f (bk f r) r).get 12).int = 0 := ai 12 (by decide)
  rw [one_ok hF hf fs hv hw, e2]
  have s1 : D.seg 13 ((bk f r).app (.cons (.b true) .nil)) 0 = D.seg 13 (bk f r) 0 := rfl
  have s2 : D.seg 13 ((af f (bk f r) r).app (.cons (.b true) .nil)) 0 = D.seg 13 (af f (bk f r) r) 0 := rfl
  simp only [s1]
  rw [ex, ev, eo]
  simp only [s2]
  rw [ey]
  refine ⟨⟨rfl, fun k hk => ?_⟩, ⟨rfl, fun k hk => ?_⟩, rfl, rfl, fun k hk => ?_⟩
  · rcases lt3 hk with rfl | rfl | rfl
    · show (v.get 0).int + r 0 + -(r 0) = _
      omega
    · show (v.get 1).int + r 1 + -(r 1) = _
      omega
    · show (v.get 2).int + r 2 + -(r 2) = _
      omega
  · have : k = 0 ∨ k = 1 ∨ k = 2 ∨ k = 3 ∨ k = 4 ∨ k = 5 ∨ k = 6 ∨ k = 7 ∨ k = 8 ∨ k = 9 ∨ k = 10 ∨ k = 11 ∨ k = 12 := by omega
    rcases this with rfl | rfl | rfl | rfl | rfl | rfl | rfl | rfl | rfl | rfl | rfl | rfl | rfl
    · rfl
    · rfl
    · rfl
    · rfl
    · rfl
    · rfl
    · rfl
    · rfl
    · rfl
    · rfl
    · exact Int.neg_neg _
    · exact Int.neg_neg _
    · exact Int.neg_neg _
  · rcases lt3 hk with rfl | rfl | rfl
    · show (v.get 0).int + ((af f (bk f r) r).get 10).int = _
      rw [b0]; omega
    · show (v.get 1).int + ((af f (bk f r) r).get 11).int = _
      rw [b1]; omega
    · show (v.get 2).int + ((af f (bk f r) r).get 12).int = _
      rw [b2]; omega
end
theorem gm_dvd {d m0 m1 m2 m3 m4 m5 m6 m7 m8 : Int} (h0 : 1 ≤ d) (h1 : d ≤ 4294967296) (a0 : -4294967296 ≤ m0) (b0 : m0 ≤ 4294967296) (a1 : -4294967296 ≤ m1) (b1 : m1 ≤ 4294967296) (a2 : -4294967296 ≤ m2) (b2 : m2 ≤ 4294967296) (a3 : -4294967296 ≤ m3) (b3 : m3 ≤ 4294967296) (a4 : -4294967296 ≤ m4) (b4 : m4 ≤ 4294967296) (a5 : -4294967296 ≤ m5) (b5 : m5 ≤ 4294967296) (a6 : -4294967296 ≤ m6) (b6 : m6 ≤ 4294967296) (a7 : -4294967296 ≤ m7) (b7 : m7 ≤ 4294967296) (a8 : -4294967296 ≤ m8) (b8 : m8 ≤ 4294967296) :
    let c := gmI d m0 m1 m2 m3 m4 m5 m6 m7 m8
    c ∣ d ∧ c ∣ m0 ∧ c ∣ m1 ∧ c ∣ m2 ∧ c ∣ m3 ∧ c ∣ m4 ∧ c ∣ m5 ∧ c ∣ m6 ∧ c ∣ m7 ∧ c ∣ m8 := by
  have s0 := (gstep h0 h1 a0 b0).2
  have v0 := g1_dvd h0 h1 a0 b0
  have s1 := (gstep s0.1 s0.2 a1 b1).2
  have v1 := g1_dvd s0.1 s0.2 a1 b1
  have s2 := (gstep s1.1 s1.2 a2 b2).2
  have v2 := g1_dvd s1.1 s1.2 a2 b2
  have s3 := (gstep s2.1 s2.2 a3 b3).2
  have v3 := g1_dvd s2.1 s2.2 a3 b3
  have s4 := (gstep s3.1 s3.2 a4 b4).2
  have v4 := g1_dvd s3.1 s3.2 a4 b4
  have s5 := (gstep s4.1 s4.2 a5 b5).2
  have v5 := g1_dvd s4.1 s4.2 a5 b5
  have s6 := (gstep s5.1 s5.2 a6 b6).2
  have v6 := g1_dvd s5.1 s5.2 a6 b6
  have s7 := (gstep s6.1 s6.2 a7 b7).2
  have v7 := g1_dvd s6.1 s6.2 a7 b7
  have v8 := g1_dvd s7.1 s7.2 a8 b8
  have c7 := v8.1
  have c6 := Int.dvd_trans c7 v7.1
  have c5 := Int.dvd_trans c6 v6.1
  have c4 := Int.dvd_trans c5 v5.1
  have c3 := Int.dvd_trans c4 v4.1
  have c2 := Int.dvd_trans c3 v3.1
  have c1 := Int.dvd_trans c2 v2.1
  have c0 := Int.dvd_trans c1 v1.1
  exact ⟨Int.dvd_trans c0 v0.1, Int.dvd_trans c0 v0.2, Int.dvd_trans c1 v1.2, Int.dvd_trans c2 v2.2, Int.dvd_trans c3 v3.2, Int.dvd_trans c4 v4.2, Int.dvd_trans c5 v5.2, Int.dvd_trans c6 v6.2, Int.dvd_trans c7 v7.2, v8.2⟩
section
variable {T : Tab} (hF : Fs.ok F17 T) {f g v : D} {t : Nat → Int} (hf : VF T f) (hg : VF T g)
include hF hf hg in
/-- what the elements of a product are divided by -/
theorem cc_dvd : 1 ≤ cc f g ∧ cc f g ∣ (g.get 9).int * (f.get 9).int ∧ ∀ i j, i < 3 → j < 3 → cc f g ∣ pr g f i j := by
  have df : 1 ≤ (f.get 9).int ∧ (f.get 9).int ≤ 25 := ⟨(frame_b hF.tail.tail.tail.tail.tail.tail.tail.tail.tail hf).1, (frame_b hF.tail.tail.tail.tail.tail.tail.tail.tail.tail hf).2.1⟩
  have dg : 1 ≤ (g.get 9).int ∧ (g.get 9).int ≤ 25 := ⟨(frame_b hF.tail.tail.tail.tail.tail.tail.tail.tail.tail hg).1, (frame_b hF.tail.tail.tail.tail.tail.tail.tail.tail.tail hg).2.1⟩
  have q := den_in dg.1 dg.2 df.1 df.2
  have mf : ∀ k, k < 9 → -96 ≤ (f.get k).int ∧ (f.get k).int ≤ 96 := fun k hk => by
    have h := frame_m hF.tail.tail.tail.tail.tail.tail.tail.tail.tail hf k hk
    have : k = 0 ∨ k = 1 ∨ k = 2 ∨ k = 3 ∨ k = 4 ∨ k = 5 ∨ k = 6 ∨ k = 7 ∨ k = 8 := by omega
    rcases this with rfl | rfl | rfl | rfl | rfl | rfl | rfl | rfl | rfl <;> exact ⟨Int.le_trans (by decide) h.1, Int.le_trans h.2 (by decide)⟩
  have mg : ∀ k, k < 9 → -25 ≤ (g.get k).int ∧ (g.get k).int ≤ 25 := fun k hk => by
    have h := frame_m hF.tail.tail.tail.tail.tail.tail.tail.tail.tail hg k hk
    have : k = 0 ∨ k = 1 ∨ k = 2 ∨ k = 3 ∨ k = 4 ∨ k = 5 ∨ k = 6 ∨ k = 7 ∨ k = 8 := by omega
    rcases this with rfl | rfl | rfl | rfl | rfl | rfl | rfl | rfl | rfl <;> exact h
  have pb : ∀ i j, i < 3 → j < 3 → -4294967296 ≤ pr g f i j ∧ pr g f i j ≤ 4294967296 := fun i j hi hj => by
    have a := mg (3 * i) (by omega)
    have b := mg (3 * i + 1) (by omega)
    have c := mg (3 * i + 2) (by omega)
    have x := mf j (by omega)
    have y := mf (3 + j) (by omega)
    have z := mf (6 + j) (by omega)
    have := (dot_in a.1 a.2 x.1 x.2 b.1 b.2 y.1 y.2 c.1 c.2 z.1 z.2).2
    exact ⟨Int.le_trans (by decide) this.1, Int.le_trans this.2 (by decide)⟩
  have p := fun i j (hi : i < 3) (hj : j < 3) => pb i j hi hj
  have k := gm_dvd (d := (g.get 9).int * (f.get 9).int) (by omega) (by omega) (p 0 0 (by decide) (by decide)).1 (p 0 0 (by decide) (by decide)).2 (p 0 1 (by decide) (by decide)).1 (p 0 1 (by decide) (by decide)).2 (p 0 2 (by decide) (by decide)).1 (p 0 2 (by decide) (by decide)).2 (p 1 0 (by decide) (by decide)).1 (p 1 0 (by decide) (by decide)).2 (p 1 1 (by decide) (by decide)).1 (p 1 1 (by decide) (by decide)).2 (p 1 2 (by decide) (by decide)).1 (p 1 2 (by decide) (by decide)).2 (p 2 0 (by decide) (by decide)).1 (p 2 0 (by decide) (by decide)).2 (p 2 1 (by decide) (by decide)).1 (p 2 1 (by decide) (by decide)).2 (p 2 2 (by decide) (by decide)).1 (p 2 2 (by decide) (by decide)).2
  have k1 := (common_i (d := (g.get 9).int * (f.get 9).int) (by omega) (by omega) (p 0 0 (by decide) (by decide)).1 (p 0 0 (by decide) (by decide)).2 (p 0 1 (by decide) (by decide)).1 (p 0 1 (by decide) (by decide)).2 (p 0 2 (by decide) (by decide)).1 (p 0 2 (by decide) (by decide)).2 (p 1 0 (by decide) (by decide)).1 (p 1 0 (by decide) (by decide)).2 (p 1 1 (by decide) (by decide)).1 (p 1 1 (by decide) (by decide)).2 (p 1 2 (by decide) (by decide)).1 (p 1 2 (by decide) (by decide)).2 (p 2 0 (by decide) (by decide)).1 (p 2 0 (by decide) (by decide)).2 (p 2 1 (by decide) (by decide)).1 (p 2 1 (by decide) (by decide)).2 (p 2 2 (by decide) (by decide)).1 (p 2 2 (by decide) (by decide)).2).2
  obtain ⟨q0, q1, q2, q3, q4, q5, q6, q7, q8, q9⟩ := k
  refine ⟨k1, q0, fun i j hi hj => ?_⟩
  rcases lt3 hi with rfl | rfl | rfl <;> rcases lt3 hj with rfl | rfl | rfl
  · exact q1
  · exact q2
  · exact q3
  · exact q4
  · exact q5
  · exact q6
  · exact q7
  · exact q8
  · exact q9
variable (fs : ∀ k, k < 3 → -4 ≤ (f.get (10 + k)).int ∧ (f.get (10 + k)).int ≤ 4) (gs : ∀ k, k < 3 → -4 ≤ (g.get (10 + k)).int ∧ (g.get (10 + k)).int ≤ 4)
  (hv : ∀ k, k < 3 → (v.get k).int = (f.get 9).int * (g.get 9).int * t k) (hw : ∀ k, k < 3 → -4 ≤ (v.get k).int ∧ (v.get k).int ≤ 4)
include hF hf hg hv hw fs in
/-- one after the other -/
theorem both_ok (h7 : ((T 11 (D.app (D.seg 13 f 0) (D.seg 13 g 0))).get 13).bool = true) (h8 : ((T 8 (D.app (D.seg 13 g 0) (D.seg 3 (T 8 (D.app (D.seg 13 f 0) (D.seg 3 v 0))) 0))).get 3).bool = true) :
    let o := T 11 (D.app (D.seg 13 f 0) (D.seg 13 g 0))
    let z := T 8 (D.app (D.seg 13 g 0) (D.seg 3 (T 8 (D.app (D.seg 13 f 0) (D.seg 3 v 0))) 0))
    let x := T 8 (D.app (D.seg 13 o 0) (D.seg 3 v 0))
    (x.get 3).bool = true ∧ ∀ k, k < 3 → (x.get k).int = (z.get k).int := by
  obtain ⟨-, -, r, hr, hb⟩ := after_inv hF h7
  have eo := after_ok hF hf hg r hr hb
  have e1 := one_ok hF hf fs hv hw
  rw [e1] at h8
  obtain ⟨-, wi, z, hz, ho⟩ := apply_inv hF h8
  have ez := apply_ok hF hg wi z hz ho
  have d0 : 1 ≤ (f.get 9).int := (frame_b hF.tail.tail.tail.tail.tail.tail.tail.tail.tail hf).1
  have d1 : 1 ≤ (g.get 9).int := (frame_b hF.tail.tail.tail.tail.tail.tail.tail.tail.tail hg).1
  obtain ⟨c1, cd, cp⟩ := cc_dvd hF hf hg
  have h0 : (f.get 0).int * ((f.get 9).int * (g.get 9).int * t 0) + (f.get 1).int * ((f.get 9).int * (g.get 9).int * t 1) + (f.get 2).int * ((f.get 9).int * (g.get 9).int * t 2) = (f.get 9).int * qF f g t 0 := by
    rw [← hv 0 (by decide), ← hv 1 (by decide), ← hv 2 (by decide)]; exact dt_q hv 0
  have h1 : (f.get 3).int * ((f.get 9).int * (g.get 9).int * t 0) + (f.get 4).int * ((f.get 9).int * (g.get 9).int * t 1) + (f.get 5).int * ((f.get 9).int * (g.get 9).int * t 2) = (f.get 9).int * qF f g t 1 := by
    rw [← hv 0 (by decide), ← hv 1 (by decide), ← hv 2 (by decide)]; exact dt_q hv 1
  have h2 : (f.get 6).int * ((f.get 9).int * (g.get 9).int * t 0) + (f.get 7).int * ((f.get 9).int * (g.get 9).int * t 1) + (f.get 8).int * ((f.get 9).int * (g.get 9).int * t 2) = (f.get 9).int * qF f g t 2 := by
    rw [← hv 0 (by decide), ← hv 1 (by decide), ← hv 2 (by decide)]; exact dt_q hv 2
  have ze : ∀ i, i < 3 → z i = (pr g f i 0 * t 0 + pr g f i 1 * t 1 + pr g f i 2 * t 2) + r i := fun i hi => by
    have a : (g.get (3 * i)).int * (f.get 10).int + (g.get (3 * i + 1)).int * (f.get 11).int + (g.get (3 * i + 2)).int * (f.get 12).int = (g.get 9).int * r i := hr i hi
    have b := alg3 (w0 := qF f g t 0 + (f.get 10).int) (w1 := qF f g t 1 + (f.get 11).int) (w2 := qF f g t 2 + (f.get 12).int) d0 d1 h0 h1 h2 a rfl rfl rfl
    have k : dt g (wF f g t) i = (g.get 9).int * z i := hz i hi
    exact Int.eq_of_mul_eq_mul_left (show (g.get 9).int ≠ 0 by omega) (k.symm.trans b)
  have ex := apply_ok hF hb (v := v) (fun i hi => by have := hw i hi; omega) (fun i => pr g f i 0 * t 0 + pr g f i 1 * t 1 + pr g f i 2 * t 2) (fun i hi => by
    have a9 : ((af f g r).get 9).int = Int.tdiv ((g.get 9).int * (f.get 9).int) (cc f g) := rfl
    have m : ∀ j, j < 3 → ((af f g r).get (3 * i + j)).int = Int.tdiv (pr g f i j) (cc f g) := fun j hj => by
      rcases lt3 hi with rfl | rfl | rfl <;> rcases lt3 hj with rfl | rfl | rfl <;> rfl
    have k0 := Int.mul_tdiv_cancel' (cp i 0 hi (by decide))
    have k1 := Int.mul_tdiv_cancel' (cp i 1 hi (by decide))
    have k2 := Int.mul_tdiv_cancel' (cp i 2 hi (by decide))
    have k9 := Int.mul_tdiv_cancel' cd
    unfold dt
    rw [a9, show 3 * i = 3 * i + 0 from rfl, m 0 (by decide), m 1 (by decide), m 2 (by decide), hv 0 (by decide), hv 1 (by decide), hv 2 (by decide)]
    generalize Int.tdiv (pr g f i 0) (cc f g) = x0 at k0
    generalize Int.tdiv (pr g f i 1) (cc f g) = x1 at k1
    generalize Int.tdiv (pr g f i 2) (cc f g) = x2 at k2
    generalize Int.tdiv ((g.get 9).int * (f.get 9).int) (cc f g) = x9 at k9
    rw [← k0, ← k1, ← k2, Int.mul_comm (f.get 9).int (g.get 9).int, ← k9]
    clear ez ze ho hz h0 h1 h2 hr hb eo e1 wi k0 k1 k2 k9 m a9 cp cd c1
    grind) (fun i hi => by
    have a := ho i hi
    rw [ze i hi] at a
    have : ((af f g r).get (10 + i)).int = r i + (g.get (10 + i)).int := by rcases lt3 hi with rfl | rfl | rfl <;> rfl
    rw [this]; omega)
  rw [e1, ez, eo]
  have s2 : D.seg 13 ((af f g r).app (.cons (.b true) .nil)) 0 = D.seg 13 (af f g r) 0 := rfl
  simp only [s2]
  rw [ex]
  refine ⟨rfl, fun k hk => ?_⟩
  have e := ze k hk
  rcases lt3 hk with rfl | rfl | rfl
  · show _ + (r 0 + (g.get 10).int) = z 0 + (g.get 10).int
    rw [e]; omega
  · show _ + (r 1 + (g.get 11).int) = z 1 + (g.get 11).int
    rw [e]; omega
  · show _ + (r 2 + (g.get 12).int) = z 2 + (g.get 12).int
    rw [e]; omega
end
theorem eqI_ok {a b : D} : ∀ {n : Nat}, eqI a b n = true → ∀ j, j < n → (a.get j).int = (b.get j).int
  | 0, _, j, hj => by omega
  | n + 1, h, j, hj => by
    have h : (eqI a b n && ieqR (a.getR n).int (b.getR n).int) = true := h
    rw [Bool.and_eq_true, ieqR_eq, getR_eq, getR_eq] at h
    rcases Nat.lt_succ_iff_lt_or_eq.1 hj with h1 | h1
    · exact eqI_ok h.1 j h1
    · subst h1; exact beq_iff_eq.1 h.2
section
variable {T : Tab} (hF : Fs.ok F17 T)
include hF
theorem cube_of (L : D) (h : ((T 24 (.cons L .nil)).get 9).int = 1) : ((T 5 (trD (D.seg 10 (T 24 (.cons L .nil)) 0))).get 0).bool = true ∧ ∃ k, k < 24 ∧ ∀ j, j < 10 → ((T 24 (.cons L .nil)).get j).int = ((allD.get k).get j).int := by
  have e5 : T 5 = tabF F16 5 := tabF_eq hF.tail (by kernel_rfl)
  obtain ⟨a, b, ha, hb, e⟩ := frames_t hF L
  have c : cubeChk a b = true := List.all_eq_true.1 (List.all_eq_true.1 cubeAll a (List.mem_range.2 ha)) b (List.mem_range.2 hb)
  have e9 : (frT a b).getR 9 = (T 24 (.cons L .nil)).get 9 := by rw [getR_eq, ← e]; rfl
  unfold cubeChk at c
  rw [e9, ieqR_eq, h] at c
  have c : (((tabF F16 5 (trD (frT a b))).getR 0).bool && (List.range 24).any fun k => eqI (frT a b) (allD.getR k) 10) = true := c
  rw [Bool.and_eq_true, List.any_eq_true] at c
  obtain ⟨c1, k, hk, c2⟩ := c
  refine ⟨by rw [e, e5, ← getR_eq]; exact c1, k, List.mem_range.1 hk, fun j hj => ?_⟩
  have := eqI_ok c2 j hj
  rw [getR_eq, ← e] at this
  rw [← this]
  have : j = 0 ∨ j = 1 ∨ j = 2 ∨ j = 3 ∨ j = 4 ∨ j = 5 ∨ j = 6 ∨ j = 7 ∨ j = 8 ∨ j = 9 := by omega
  rcases this with rfl | rfl | rfl | rfl | rfl | rfl | rfl | rfl | rfl | rfl <;> rfl
/-- from a rotation of the cube there is a way back -/
theorem one_two (L : D) (h : ((T 24 (.cons L .nil)).get 9).int = 1) : ((T 10 (D.seg 13 (T 24 (.cons L .nil)) 0)).get 13).bool = true := by
  have hf := made_v hF L
  have fs := made_s hF L
  obtain ⟨c, -⟩ := cube_of hF L h
  generalize T 24 (.cons L .nil) = f at h hf fs c
  have mf : ∀ k, k < 9 → -1 ≤ (f.get k).int ∧ (f.get k).int ≤ 1 := fun k hk => by
    have h' := (frame_b hF.tail.tail.tail.tail.tail.tail.tail.tail.tail hf).2.2.1 k hk
    have e9 : ((D.seg 13 f 0).get 9).int = 1 := h
    rw [e9] at h'
    have : k = 0 ∨ k = 1 ∨ k = 2 ∨ k = 3 ∨ k = 4 ∨ k = 5 ∨ k = 6 ∨ k = 7 ∨ k = 8 := by omega
    rcases this with rfl | rfl | rfl | rfl | rfl | rfl | rfl | rfl | rfl <;> exact h'
  have e := back_ok hF hf (dtS f) (fun i _ => by rw [h]; omega) (V_intro hF c fun k hk => by
    have a := mf k (by omega)
    have b := mf (3 + k) (by omega)
    have d := mf (6 + k) (by omega)
    have x : -4 ≤ (f.get 10).int ∧ (f.get 10).int ≤ 4 := fs 0 (by decide)
    have y : -4 ≤ (f.get 11).int ∧ (f.get 11).int ≤ 4 := fs 1 (by decide)
    have z : -4 ≤ (f.get 12).int ∧ (f.get 12).int ≤ 4 := fs 2 (by decide)
    have q := row_le (d := 1) (by omega) a.1 a.2 b.1 b.2 d.1 d.2 x.1 x.2 y.1 y.2 z.1 z.2 (q := dtS f k) (by rw [Int.one_mul]; rfl)
    have : ((bk f (dtS f)).get (10 + k)).int = -(dtS f k) := by rcases lt3 hk with rfl | rfl | rfl <;> rfl
    rw [this]; omega)
  rw [e]; rfl
/-- two rotations of the cube, one after the other -/
theorem one_both (L L' v : D) {t : Nat → Int} (hv : ∀ k, k < 3 → (v.get k).int = ((T 24 (.cons L .nil)).get 9).int * ((T 24 (.cons L' .nil)).get 9).int * t k) (hw : ∀ k, k < 3 → -4 ≤ (v.get k).int ∧ (v.get k).int ≤ 4) (h : ((T 24 (.cons L .nil)).get 9).int = 1) (h' : ((T 24 (.cons L' .nil)).get 9).int = 1) :
    ((T 11 (D.app (D.seg 13 (T 24 (.cons L .nil)) 0) (D.seg 13 (T 24 (.cons L' .nil)) 0))).get 13).bool = true ∧ ((T 8 (D.app (D.seg 13 (T 24 (.cons L' .nil)) 0) (D.seg 3 (T 8 (D.app (D.seg 13 (T 24 (.cons L .nil)) 0) (D.seg 3 v 0))) 0))).get 3).bool = true := by
  have e5 : T 5 = tabF F16 5 := tabF_eq hF.tail (by kernel_rfl)
  have hf := made_v hF L
  have hg := made_v hF L'
  have fs := made_s hF L
  have gs := made_s hF L'
  obtain ⟨-, kf, kf1, kf2⟩ := cube_of hF L h
  obtain ⟨-, kg, kg1, kg2⟩ := cube_of hF L' h'
  generalize T 24 (.cons L .nil) = f at h hf fs kf2 hv
  generalize T 24 (.cons L' .nil) = g at h' hg gs kg2 hv
  have mo : ∀ {x : D}, VF T x → (x.get 9).int = 1 → ∀ k, k < 9 → -1 ≤ (x.get k).int ∧ (x.get k).int ≤ 1 := fun {x} hx h9 k hk => by
    have h' := (frame_b hF.tail.tail.tail.tail.tail.tail.tail.tail.tail hx).2.2.1 k hk
    have e9 : ((D.seg 13 x 0).get 9).int = 1 := h9
    rw [e9] at h'
    have : k = 0 ∨ k = 1 ∨ k = 2 ∨ k = 3 ∨ k = 4 ∨ k = 5 ∨ k = 6 ∨ k = 7 ∨ k = 8 := by omega
    rcases this with rfl | rfl | rfl | rfl | rfl | rfl | rfl | rfl | rfl <;> exact h'
  have ro : ∀ {x : D}, VF T x → (x.get 9).int = 1 → ∀ i, i < 3 → (x.get (3 * i)).int * (x.get (3 * i)).int + (x.get (3 * i + 1)).int * (x.get (3 * i + 1)).int + (x.get (3 * i + 2)).int * (x.get (3 * i + 2)).int = 1 := fun {x} hx h9 i hi => by
    obtain ⟨o00, -, -, o11, -, o22⟩ := valid_eq hF hx
    rw [h9] at o00 o11 o22
    rcases lt3 hi with rfl | rfl | rfl
    · exact o00
    · exact o11
    · exact o22
  have mf := mo hf h
  have mg := mo hg h'
  obtain ⟨c1, cd, -⟩ := cc_dvd hF hf hg
  have cc1 : cc f g = 1 := by
    rw [h, h'] at cd
    exact Int.eq_one_of_dvd_one (by omega) cd
  have x : -4 ≤ (f.get 10).int ∧ (f.get 10).int ≤ 4 := fs 0 (by decide)
  have y : -4 ≤ (f.get 11).int ∧ (f.get 11).int ≤ 4 := fs 1 (by decide)
  have z : -4 ≤ (f.get 12).int ∧ (f.get 12).int ≤ 4 := fs 2 (by decide)
  refine ⟨?_, ?_⟩
  · have e := after_ok hF hf hg (dS g f) (fun i _ => by rw [h']; omega) (V_intro hF (by
      rw [← five_congr hF (d := prD (allD.get kg) (allD.get kf)) fun k hk => ?_]
      · have := List.all_eq_true.1 (List.all_eq_true.1 pairAll kg (List.mem_range.2 kg1)) kf (List.mem_range.2 kf1)
        rw [getR_eq, getR_eq, getR_eq] at this
        rw [e5]; exact this
      · have td : ∀ i j, i < 3 → j < 3 → Int.tdiv (pr g f i j) (cc f g) = ((allD.get kg).get (3 * i)).int * ((allD.get kf).get j).int + ((allD.get kg).get (3 * i + 1)).int * ((allD.get kf).get (3 + j)).int + ((allD.get kg).get (3 * i + 2)).int * ((allD.get kf).get (6 + j)).int := fun i j hi hj => by
          rw [cc1, Int.tdiv_one, ← kg2 (3 * i) (by omega), ← kg2 (3 * i + 1) (by omega), ← kg2 (3 * i + 2) (by omega), ← kf2 j (by omega), ← kf2 (3 + j) (by omega), ← kf2 (6 + j) (by omega)]
          rfl
        have rr : ∀ i j, ((allD.get kg).getR (3 * i)).int * ((allD.get kf).getR j).int + ((allD.get kg).getR (3 * i + 1)).int * ((allD.get kf).getR (3 + j)).int + ((allD.get kg).getR (3 * i + 2)).int * ((allD.get kf).getR (6 + j)).int = ((allD.get kg).get (3 * i)).int * ((allD.get kf).get j).int + ((allD.get kg).get (3 * i + 1)).int * ((allD.get kf).get (3 + j)).int + ((allD.get kg).get (3 * i + 2)).int * ((allD.get kf).get (6 + j)).int := fun i j => by simp only [getR_eq]
        have : k = 0 ∨ k = 1 ∨ k = 2 ∨ k = 3 ∨ k = 4 ∨ k = 5 ∨ k = 6 ∨ k = 7 ∨ k = 8 ∨ k = 9 := by omega
        rcases this with rfl | rfl | rfl | rfl | rfl | rfl | rfl | rfl | rfl | rfl
        · exact (rr 0 0).trans (td 0 0 (by decide) (by decide)).symm
        · exact (rr 0 1).trans (td 0 1 (by decide) (by decide)).symm
        · exact (rr 0 2).trans (td 0 2 (by decide) (by decide)).symm
        · exact (rr 1 0).trans (td 1 0 (by decide) (by decide)).symm
        · exact (rr 1 1).trans (td 1 1 (by decide) (by decide)).symm
        · exact (rr 1 2).trans (td 1 2 (by decide) (by decide)).symm
        · exact (rr 2 0).trans (td 2 0 (by decide) (by decide)).symm
        · exact (rr 2 1).trans (td 2 1 (by decide) (by decide)).symm
        · exact (rr 2 2).trans (td 2 2 (by decide) (by decide)).symm
        · show (1 : Int) = Int.tdiv ((g.get 9).int * (f.get 9).int) (cc f g)
          rw [cc1, h, h']; rfl) fun k hk => by
      have a := mg (3 * k) (by omega)
      have b := mg (3 * k + 1) (by omega)
      have d := mg (3 * k + 2) (by omega)
      have q := row_le (d := 1) (by omega) a.1 a.2 b.1 b.2 d.1 d.2 x.1 x.2 y.1 y.2 z.1 z.2 (q := dS g f k) (by rw [Int.one_mul]; rfl)
      have s := gs k hk
      have : ((af f g (dS g f)).get (10 + k)).int = dS g f k + (g.get (10 + k)).int := by rcases lt3 hk with rfl | rfl | rfl <;> rfl
      rw [this]; omega)
    rw [e]; rfl
  · rw [one_ok hF hf fs hv hw]
    have w8 : ∀ i, i < 3 → -8 ≤ ((wF f g t).get i).int ∧ ((wF f g t).get i).int ≤ 8 := fun i hi => by
      have a := mf (3 * i) (by omega)
      have b := mf (3 * i + 1) (by omega)
      have d := mf (3 * i + 2) (by omega)
      have v0 := hw 0 (by decide)
      have v1 := hw 1 (by decide)
      have v2 := hw 2 (by decide)
      have u := unit_row (ro hf h i hi) a.1 a.2 b.1 b.2 d.1 d.2 v0.1 v0.2 v1.1 v1.2 v2.1 v2.2
      have k : dt f v i = (f.get 9).int * qF f g t i := dt_q hv i
      have u : -4 ≤ dt f v i ∧ dt f v i ≤ 4 := u
      rw [k, h, Int.one_mul] at u
      have s := fs i hi
      have : ((wF f g t).get i).int = qF f g t i + (f.get (10 + i)).int := by rcases lt3 hi with rfl | rfl | rfl <;> rfl
      rw [this]; omega
    have e := apply_ok hF hg (v := wF f g t) (fun i hi => by have := w8 i hi; omega) (dt g (wF f g t)) (fun i _ => by rw [h']; omega) (fun i hi => by
      have a := mg (3 * i) (by omega)
      have b := mg (3 * i + 1) (by omega)
      have d := mg (3 * i + 2) (by omega)
      have v0 := w8 0 (by decide)
      have v1 := w8 1 (by decide)
      have v2 := w8 2 (by decide)
      have u := unit_row (ro hg h' i hi) a.1 a.2 b.1 b.2 d.1 d.2 v0.1 v0.2 v1.1 v1.2 v2.1 v2.2
      have u : -8 ≤ dt g (wF f g t) i ∧ dt g (wF f g t) i ≤ 8 := u
      have s := gs i hi
      omega)
    rw [e]; rfl
end

end Go.Proofs.Ytjeenfnfkndgaaa
