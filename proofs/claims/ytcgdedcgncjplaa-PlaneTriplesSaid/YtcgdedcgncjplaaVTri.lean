/- The law PlaneTriples is true. -/
import Derived.Test.YtcgdedcgncjplaaVSan
import Derived.Test.YtcgdedcgncjplaaVMath
namespace Go.Proofs.Ytcgdedcgncjplaa
open Go.RowKit

/-- wraps inside sums, differences and products fall away -/
theorem triple0 (a b c x y z : Int) : dt (crx a b c x y z) (cry a b c x y z) (crz a b c x y z) a b c = 0 := by
  unfold dt crx cry crz
  simp only [w64_addl, w64_addr, w64_mull, w64_subl, w64_subr]
  rw [show (b * z - c * y) * a + (c * x - a * z) * b + (a * y - b * x) * c = 0 by grind]
  kernel_rfl
theorem triple1 (a b c x y z : Int) : dt (crx a b c x y z) (cry a b c x y z) (crz a b c x y z) x y z = 0 := by
  unfold dt crx cry crz
  simp only [w64_addl, w64_addr, w64_mull, w64_subl, w64_subr]
  rw [show (b * z - c * y) * x + (c * x - a * z) * y + (a * y - b * x) * z = 0 by grind]
  kernel_rfl
theorem opposite (a b c x y z : Int) : wrap64 (crx a b c x y z + crx x y z a b c) = 0 ∧ wrap64 (cry a b c x y z + cry x y z a b c) = 0 ∧ wrap64 (crz a b c x y z + crz x y z a b c) = 0 := by
  unfold crx cry crz
  simp only [w64_addl, w64_addr, w64_subl, w64_subr]
  refine ⟨?_, ?_, ?_⟩
  · rw [show b * z - c * y + (y * c - z * b) = 0 by grind]; kernel_rfl
  · rw [show c * x - a * z + (z * a - x * c) = 0 by grind]; kernel_rfl
  · rw [show a * y - b * x + (x * b - y * a) = 0 by grind]; kernel_rfl
theorem triple2 (a b c x y z p q r : Int) : dt (crx a b c x y z) (cry a b c x y z) (crz a b c x y z) p q r = dt (crx x y z p q r) (cry x y z p q r) (crz x y z p q r) a b c := by
  unfold dt crx cry crz
  simp only [w64_addl, w64_addr, w64_mull, w64_subl, w64_subr]
  exact congrArg wrap64 (by grind)
theorem triple3 (a b c x y z p q r : Int) : dt (crx a b c x y z) (cry a b c x y z) (crz a b c x y z) p q r = dt (crx p q r a b c) (cry p q r a b c) (crz p q r a b c) x y z := by
  unfold dt crx cry crz
  simp only [w64_addl, w64_addr, w64_mull, w64_subl, w64_subr]
  exact congrArg wrap64 (by grind)
theorem lead_back {a : Int} (h : I64 a) (x : Int) : wrap64 (wrap64 (a + x) - x) = a := by
  rw [w64_subl, show a + x - x = a by omega]
  exact IntWalk.wrap64_in _ h
theorem dot_sum (a b c x y z p q r : Int) : dt a b c (wrap64 (x + p)) (wrap64 (y + q)) (wrap64 (z + r)) = wrap64 (dt a b c x y z + dt a b c p q r) := by
  unfold dt
  simp only [w64_addl, w64_addr, w64_mulr]
  exact congrArg wrap64 (by grind)
set_option maxRecDepth 100000 in
set_option maxHeartbeats 8000000 in
theorem triples_true (e1 e2 e3 f1 f2 f3 g1 g2 g3 : Int) (hi1 : I64 e1) (hi2 : I64 e2) (hi3 : I64 e3) (w : World) : Calls Try.prog 6 #[V e1 e2 e3, V f1 f2 f3, V g1 g2 g3] w (Gives w (.bool true)) := by
  unfold V
  have h0 := hideV (triple0 e1 e2 e3 f1 f2 f3)
  have h1 := hideV (triple1 e1 e2 e3 f1 f2 f3)
  have hk1 := hideV (opposite e1 e2 e3 f1 f2 f3).1
  have hk2 := hideV (opposite e1 e2 e3 f1 f2 f3).2.1
  have hk3 := hideV (opposite e1 e2 e3 f1 f2 f3).2.2
  have h2 := hideV (triple2 e1 e2 e3 f1 f2 f3 g1 g2 g3).symm
  have h3 := hideV (triple3 e1 e2 e3 f1 f2 f3 g1 g2 g3).symm
  have h4 := hideV (lead_back hi1 f1)
  have h5 := hideV (lead_back hi2 f2)
  have h6 := hideV (lead_back hi3 f3)
  have h7 := hideV (dot_sum e1 e2 e3 f1 f2 f3 g1 g2 g3)
  go_enter Try.func6, Try.ntmps6
  have hB := Below.refl w.heap.size w
  go_wp2_with fail
  refine (sanity_true _).mono ?_
  rintro e W1 ⟨rfl, hk⟩
  have hs : Below w.heap.size w W1 := Below.trans (by repeat (first | exact Below.refl _ _ | refine Below.alloc ?_ (by first | omega | (simp; try omega)) _ | refine Below.setCell ?_ (by first | omega | (simp; try omega)) _)) (hk.mono (by first | omega | (simp; try omega)))
  have v0 : Var W1 (w.heap.size) [.int .i64 e1, .int .i64 e2, .int .i64 e3] := Var.low ⟨by first | omega | (simp; try omega), by simp [Cel, go_sem]⟩ hk (by first | omega | (simp; try omega))
  have v1 : Var W1 (w.heap.size + 1) [.int .i64 f1, .int .i64 f2, .int .i64 f3] := Var.low ⟨by first | omega | (simp; try omega), by simp [Cel, go_sem]⟩ hk (by first | omega | (simp; try omega))
  have v2 : Var W1 (w.heap.size + 1 + 1) [.int .i64 g1, .int .i64 g2, .int .i64 g3] := Var.low ⟨by first | omega | (simp; try omega), by simp [Cel, go_sem]⟩ hk (by first | omega | (simp; try omega))
  obtain ⟨b2, hb2⟩ : ∃ b, w.heap.size + 1 + 1 = b := ⟨_, rfl⟩
  have lob2 : w.heap.size ≤ b2 := by have := hB.size; omega
  obtain ⟨b1, hb1⟩ : ∃ b, w.heap.size + 1 = b := ⟨_, rfl⟩
  have lob1 : w.heap.size ≤ b1 := by have := hB.size; omega
  obtain ⟨b0, hb0⟩ : ∃ b, w.heap.size = b := ⟨_, rfl⟩
  have lob0 : w.heap.size ≤ b0 := by have := hB.size; omega
  rw [hb2] at v2
  try rw [hb2]
  rw [hb1] at v1
  try rw [hb1]
  rw [hb0] at v0
  try rw [hb0]
  have hB := hB.trans (hs.mono hB.size)
  clear hb0 hb1 hb2 hs hk
  have cb0_0 := v0.at 0 rfl
  have cb0_1 := v0.at 1 rfl
  have cb0_2 := v0.at 2 rfl
  have cb1_0 := v1.at 0 rfl
  have cb1_1 := v1.at 1 rfl
  have cb1_2 := v1.at 2 rfl
  go_wp2_with fail
  refine (cross_p e1 e2 e3 f1 f2 f3 _).mono ?_
  rintro e W2 ⟨rfl, hk⟩
  try simp only [V]
  have hs := hk
  have v0 := v0.below hs
  have v1 := v1.below hs
  have v2 := v2.below hs
  have hB := hB.trans (hs.mono hB.size)
  clear cb0_0 cb0_1 cb0_2 cb1_0 cb1_1 cb1_2 hs hk
  have cb1_0 := v1.at 0 rfl
  have ab1_0_1 : ∀ o0, (W2.alloc o0).cell? ⟨b1, 0, none⟩ = some (.int .i64 f1) := fun o0 => (v1.allocs1 o0).at 0 rfl
  have cb1_1 := v1.at 1 rfl
  have ab1_1_1 : ∀ o0, (W2.alloc o0).cell? ⟨b1, 1, none⟩ = some (.int .i64 f2) := fun o0 => (v1.allocs1 o0).at 1 rfl
  have cb1_2 := v1.at 2 rfl
  have ab1_2_1 : ∀ o0, (W2.alloc o0).cell? ⟨b1, 2, none⟩ = some (.int .i64 f3) := fun o0 => (v1.allocs1 o0).at 2 rfl
  have cb0_0 := v0.at 0 rfl
  have ab0_0_1 : ∀ o0, (W2.alloc o0).cell? ⟨b0, 0, none⟩ = some (.int .i64 e1) := fun o0 => (v0.allocs1 o0).at 0 rfl
  have cb0_1 := v0.at 1 rfl
  have ab0_1_1 : ∀ o0, (W2.alloc o0).cell? ⟨b0, 1, none⟩ = some (.int .i64 e2) := fun o0 => (v0.allocs1 o0).at 1 rfl
  have cb0_2 := v0.at 2 rfl
  have ab0_2_1 : ∀ o0, (W2.alloc o0).cell? ⟨b0, 2, none⟩ = some (.int .i64 e3) := fun o0 => (v0.allocs1 o0).at 2 rfl
  go_wp2_with fail
  refine (cross_p f1 f2 f3 e1 e2 e3 _).mono ?_
  rintro e W3 ⟨rfl, hk⟩
  try simp only [V]
  have hs : Below W2.heap.size W2 W3 := Below.trans (by repeat (first | exact Below.refl _ _ | refine Below.alloc ?_ (by first | omega | (simp; try omega)) _ | refine Below.setCell ?_ (by first | omega | (simp; try omega)) _)) (hk.mono (by first | omega | (simp; try omega)))
  have v0 := v0.below hs
  have v1 := v1.below hs
  have v2 := v2.below hs
  have v3 : Var W3 (W2.heap.size) [.int .i64 (crx e1 e2 e3 f1 f2 f3), .int .i64 (cry e1 e2 e3 f1 f2 f3), .int .i64 (crz e1 e2 e3 f1 f2 f3)] := Var.low ⟨by first | omega | (simp; try omega), by simp [Cel, go_sem]⟩ hk (by first | omega | (simp; try omega))
  obtain ⟨b3, hb3⟩ : ∃ b, W2.heap.size = b := ⟨_, rfl⟩
  have lob3 : w.heap.size ≤ b3 := by have := hB.size; omega
  rw [hb3] at v3
  try rw [hb3]
  have hB := hB.trans (hs.mono hB.size)
  clear cb1_0 cb1_1 cb1_2 cb0_0 cb0_1 cb0_2 hb3 hs hk ab1_0_1 ab1_1_1 ab1_2_1 ab0_0_1 ab0_1_1 ab0_2_1
  have cb3_0 := v3.at 0 rfl
  have ab3_0_1 : ∀ o0, (W3.alloc o0).cell? ⟨b3, 0, none⟩ = some (.int .i64 (crx e1 e2 e3 f1 f2 f3)) := fun o0 => (v3.allocs1 o0).at 0 rfl
  have cb3_1 := v3.at 1 rfl
  have ab3_1_1 : ∀ o0, (W3.alloc o0).cell? ⟨b3, 1, none⟩ = some (.int .i64 (cry e1 e2 e3 f1 f2 f3)) := fun o0 => (v3.allocs1 o0).at 1 rfl
  have cb3_2 := v3.at 2 rfl
  have ab3_2_1 : ∀ o0, (W3.alloc o0).cell? ⟨b3, 2, none⟩ = some (.int .i64 (crz e1 e2 e3 f1 f2 f3)) := fun o0 => (v3.allocs1 o0).at 2 rfl
  have cb0_0 := v0.at 0 rfl
  have ab0_0_1 : ∀ o0, (W3.alloc o0).cell? ⟨b0, 0, none⟩ = some (.int .i64 e1) := fun o0 => (v0.allocs1 o0).at 0 rfl
  have cb0_1 := v0.at 1 rfl
  have ab0_1_1 : ∀ o0, (W3.alloc o0).cell? ⟨b0, 1, none⟩ = some (.int .i64 e2) := fun o0 => (v0.allocs1 o0).at 1 rfl
  have cb0_2 := v0.at 2 rfl
  have ab0_2_1 : ∀ o0, (W3.alloc o0).cell? ⟨b0, 2, none⟩ = some (.int .i64 e3) := fun o0 => (v0.allocs1 o0).at 2 rfl
  go_wp2_with fail
  refine (dot_p (crx e1 e2 e3 f1 f2 f3) (cry e1 e2 e3 f1 f2 f3) (crz e1 e2 e3 f1 f2 f3) e1 e2 e3 _).mono ?_
  rintro e W4 ⟨rfl, hk⟩
  rw [h0.out]
  have hs : Below W3.heap.size W3 W4 := Below.trans (by repeat (first | exact Below.refl _ _ | refine Below.alloc ?_ (by first | omega | (simp; try omega)) _ | refine Below.setCell ?_ (by first | omega | (simp; try omega)) _)) (hk.mono (by first | omega | (simp; try omega)))
  have v0 := v0.below hs
  have v1 := v1.below hs
  have v2 := v2.below hs
  have v3 := v3.below hs
  have v4 : Var W4 (W3.heap.size) [.int .i64 (crx f1 f2 f3 e1 e2 e3), .int .i64 (cry f1 f2 f3 e1 e2 e3), .int .i64 (crz f1 f2 f3 e1 e2 e3)] := Var.low ⟨by first | omega | (simp; try omega), by simp [Cel, go_sem]⟩ hk (by first | omega | (simp; try omega))
  obtain ⟨b4, hb4⟩ : ∃ b, W3.heap.size = b := ⟨_, rfl⟩
  have lob4 : w.heap.size ≤ b4 := by have := hB.size; omega
  rw [hb4] at v4
  try rw [hb4]
  have hB := hB.trans (hs.mono hB.size)
  clear cb3_0 cb3_1 cb3_2 cb0_0 cb0_1 cb0_2 hb4 hs hk ab3_0_1 ab3_1_1 ab3_2_1 ab0_0_1 ab0_1_1 ab0_2_1
  have cb3_0 := v3.at 0 rfl
  have cb3_1 := v3.at 1 rfl
  have cb3_2 := v3.at 2 rfl
  have cb1_0 := v1.at 0 rfl
  have cb1_1 := v1.at 1 rfl
  have cb1_2 := v1.at 2 rfl
  go_wp2_with fail
  refine (dot_p (crx e1 e2 e3 f1 f2 f3) (cry e1 e2 e3 f1 f2 f3) (crz e1 e2 e3 f1 f2 f3) f1 f2 f3 _).mono ?_
  rintro e W5 ⟨rfl, hk⟩
  rw [h1.out]
  have hs := hk
  have v0 := v0.below hs
  have v1 := v1.below hs
  have v2 := v2.below hs
  have v3 := v3.below hs
  have v4 := v4.below hs
  have hB := hB.trans (hs.mono hB.size)
  clear cb3_0 cb3_1 cb3_2 cb1_0 cb1_1 cb1_2 hs hk
  have cb3_0 := v3.at 0 rfl
  have cb3_1 := v3.at 1 rfl
  have cb3_2 := v3.at 2 rfl
  have cb4_0 := v4.at 0 rfl
  have cb4_1 := v4.at 1 rfl
  have cb4_2 := v4.at 2 rfl
  go_wp2_with fail
  refine (add_p (crx e1 e2 e3 f1 f2 f3) (cry e1 e2 e3 f1 f2 f3) (crz e1 e2 e3 f1 f2 f3) (crx f1 f2 f3 e1 e2 e3) (cry f1 f2 f3 e1 e2 e3) (crz f1 f2 f3 e1 e2 e3) _).mono ?_
  rintro e W6 ⟨rfl, hk⟩
  rw [hk1.out, hk2.out, hk3.out]
  try simp only [V]
  have hs := hk
  have v0 := v0.below hs
  have v1 := v1.below hs
  have v2 := v2.below hs
  have v3 := v3.below hs
  have v4 := v4.below hs
  have hB := hB.trans (hs.mono hB.size)
  clear cb3_0 cb3_1 cb3_2 cb4_0 cb4_1 cb4_2 hs hk
  go_wp2_with fail
  refine wp_region_dag (by kernel_rfl) ?_
  intro W7 hk
  have hs := hk
  have v0 := v0.below hs
  have v1 := v1.below hs
  have v2 := v2.below hs
  have v3 := v3.below hs
  have v4 := v4.below hs
  have hB := hB.trans (hs.mono hB.size)
  clear hs hk
  refine dagV (fun _ => trivial) 21 ?hn (fun X => ⟨#[.agg #[.int .i64 e1, .int .i64 e2, .int .i64 e3], .agg #[.int .i64 f1, .int .i64 f2, .int .i64 f3], .agg #[.int .i64 g1, .int .i64 g2, .int .i64 g3], .pointer (some ⟨b0, 0, none⟩), .pointer (some ⟨b1, 0, none⟩), .pointer (some ⟨b2, 0, none⟩), .bool false, .bool true, .pointer (some ⟨b3, 0, none⟩), .pointer (some ⟨b4, 0, none⟩), .bool true, X 20, .bool true, .agg #[.int .i64 e1, .int .i64 e2, .int .i64 e3], .agg #[.int .i64 f1, .int .i64 f2, .int .i64 f3], .agg #[.int .i64 (crx e1 e2 e3 f1 f2 f3), .int .i64 (cry e1 e2 e3 f1 f2 f3), .int .i64 (crz e1 e2 e3 f1 f2 f3)], .agg #[.int .i64 f1, .int .i64 f2, .int .i64 f3], .agg #[.int .i64 e1, .int .i64 e2, .int .i64 e3], .agg #[.int .i64 (crx f1 f2 f3 e1 e2 e3), .int .i64 (cry f1 f2 f3 e1 e2 e3), .int .i64 (crz f1 f2 f3 e1 e2 e3)], .agg #[.int .i64 (crx e1 e2 e3 f1 f2 f3), .int .i64 (cry e1 e2 e3 f1 f2 f3), .int .i64 (crz e1 e2 e3 f1 f2 f3)], .agg #[.int .i64 e1, .int .i64 e2, .int .i64 e3], .int .i64 0, .bool true, .bool true, .agg #[.int .i64 (crx e1 e2 e3 f1 f2 f3), .int .i64 (cry e1 e2 e3 f1 f2 f3), .int .i64 (crz e1 e2 e3 f1 f2 f3)], .agg #[.int .i64 f1, .int .i64 f2, .int .i64 f3], .int .i64 0, .bool true, .bool true, .bool true, .agg #[.int .i64 (crx e1 e2 e3 f1 f2 f3), .int .i64 (cry e1 e2 e3 f1 f2 f3), .int .i64 (crz e1 e2 e3 f1 f2 f3)], .agg #[.int .i64 (crx f1 f2 f3 e1 e2 e3), .int .i64 (cry f1 f2 f3 e1 e2 e3), .int .i64 (crz f1 f2 f3 e1 e2 e3)], .agg #[.int .i64 0, .int .i64 0, .int .i64 0], .agg #[.int .i64 0, .int .i64 0, .int .i64 0], .bool true, .bool true, X 0, X 1, X 2, X 3, X 4, X 5, X 6, X 7, X 8, X 9, X 10, X 11, X 12, X 13, X 14, X 15, X 16, X 17, X 18, X 19, undef, undef, undef, undef, undef, undef, undef, undef, undef, undef, undef, undef, undef, undef, undef, undef, undef, undef, undef, undef, undef, undef, undef, undef, undef, undef, undef, undef, undef, undef, undef], []⟩) [(0, 0, 0), (0, 0, 0), (0, 0, 0), (0, 0, 0), (0, 0, 0), (0, 0, 0), (0, 0, 0), (0, 0, 0), (0, 0, 0), (0, 0, 0), (0, 0, 0), (0, 0, 0), (0, 0, 0), (0, 0, 0), (0, 0, 0), (0, 0, 0), (0, 0, 0), (0, 0, 0), (0, 0, 0), (0, 0, 0), (0, 0, 0)] (fun _ => []) [.val (.agg #[.int .i64 (crx e1 e2 e3 f1 f2 f3), .int .i64 (cry e1 e2 e3 f1 f2 f3), .int .i64 (crz e1 e2 e3 f1 f2 f3)]), .val (.agg #[.int .i64 g1, .int .i64 g2, .int .i64 g3]), .val (.int .i64 (dt (crx e1 e2 e3 f1 f2 f3) (cry e1 e2 e3 f1 f2 f3) (crz e1 e2 e3 f1 f2 f3) g1 g2 g3)), .val (.agg #[.int .i64 f1, .int .i64 f2, .int .i64 f3]), .val (.agg #[.int .i64 g1, .int .i64 g2, .int .i64 g3]), .val (.agg #[.int .i64 (crx f1 f2 f3 g1 g2 g3), .int .i64 (cry f1 f2 f3 g1 g2 g3), .int .i64 (crz f1 f2 f3 g1 g2 g3)]), .val (.agg #[.int .i64 e1, .int .i64 e2, .int .i64 e3]), .val (.int .i64 (dt (crx e1 e2 e3 f1 f2 f3) (cry e1 e2 e3 f1 f2 f3) (crz e1 e2 e3 f1 f2 f3) g1 g2 g3)), .val (.bool true), .val (.bool true), .val (.agg #[.int .i64 (crx e1 e2 e3 f1 f2 f3), .int .i64 (cry e1 e2 e3 f1 f2 f3), .int .i64 (crz e1 e2 e3 f1 f2 f3)]), .val (.agg #[.int .i64 g1, .int .i64 g2, .int .i64 g3]), .val (.int .i64 (dt (crx e1 e2 e3 f1 f2 f3) (cry e1 e2 e3 f1 f2 f3) (crz e1 e2 e3 f1 f2 f3) g1 g2 g3)), .val (.agg #[.int .i64 g1, .int .i64 g2, .int .i64 g3]), .val (.agg #[.int .i64 e1, .int .i64 e2, .int .i64 e3]), .val (.agg #[.int .i64 (crx g1 g2 g3 e1 e2 e3), .int .i64 (cry g1 g2 g3 e1 e2 e3), .int .i64 (crz g1 g2 g3 e1 e2 e3)]), .val (.agg #[.int .i64 f1, .int .i64 f2, .int .i64 f3]), .val (.int .i64 (dt (crx e1 e2 e3 f1 f2 f3) (cry e1 e2 e3 f1 f2 f3) (crz e1 e2 e3 f1 f2 f3) g1 g2 g3)), .val (.bool true), .val (.bool true), .val (.bool true)] [[], [], [0, 1], [], [], [3, 4], [], [5, 6], [2, 7], [8], [9], [9], [9, 10, 11], [9], [9], [9, 13, 14], [9], [9, 15, 16], [9, 12, 17], [9, 18], [19]] [0, 1, 2, 3, 4, 5, 6, 7, 8, 9, 10, 11, 12, 13, 14, 15, 16, 17, 18, 19, 20] [] [] [] (fun _ => 0) W7 (by kernel_rfl) (by kernel_rfl) (by kernel_rfl) (by kernel_rfl) (by kernel_rfl) ?dist ?olds ?op ?al ?st ?into ?fin (fun _ => undef) _ _ (by kernel_rfl) (of_decide_eq_true (by kernel_rfl)) (of_decide_eq_true (by kernel_rfl))
  case hn => rfl
  case dist => intro i hi j hj; simp at hi hj; try omega
  case olds => exact nofun
  case op =>
    repeat' first | exact Each.nil | refine Each.cons ?_ ?_
    all_goals intro X w7 H hb hD h
    · have hv := v3.below (show Keep [] _ _ from hb).nil
      have c0_ := hv.at 0 rfl
      have c1_ := hv.at 1 rfl
      have c2_ := hv.at 2 rfl
      refine tv rfl (by rfl) ?_ (by exact h _ w7 rfl (Below.refl _ _))
      go_simp <;> first | rfl | (simp only [IntWalk.i64_left]; rfl)
    · have hv := v2.below (show Keep [] _ _ from hb).nil
      have c0_ := hv.at 0 rfl
      have c1_ := hv.at 1 rfl
      have c2_ := hv.at 2 rfl
      refine tv rfl (by rfl) ?_ (by exact h _ w7 rfl (Below.refl _ _))
      go_simp <;> first | rfl | (simp only [IntWalk.i64_left]; rfl)
    · have e0_ : X 0 = _ := hD 0 (by decide) rfl
      have e1_ : X 1 = _ := hD 1 (by decide) rfl
      refine wpOp_call (i := 2) (f := 19) (args := #[.agg #[.int .i64 (crx e1 e2 e3 f1 f2 f3), .int .i64 (cry e1 e2 e3 f1 f2 f3), .int .i64 (crz e1 e2 e3 f1 f2 f3)], .agg #[.int .i64 g1, .int .i64 g2, .int .i64 g3]]) 38 rfl rfl (by simp only [e0_, e1_]; rfl) (by simp only [e0_, e1_]; go_simp) ?_
      refine (dot_p (crx e1 e2 e3 f1 f2 f3) (cry e1 e2 e3 f1 f2 f3) (crz e1 e2 e3 f1 f2 f3) g1 g2 g3 _).mono ?_
      rintro e w8 ⟨rfl, hk⟩
      exact ⟨_, rfl, h _ w8 rfl hk⟩
    · have hv := v1.below (show Keep [] _ _ from hb).nil
      have c0_ := hv.at 0 rfl
      have c1_ := hv.at 1 rfl
      have c2_ := hv.at 2 rfl
      refine tv rfl (by rfl) ?_ (by exact h _ w7 rfl (Below.refl _ _))
      go_simp <;> first | rfl | (simp only [IntWalk.i64_left]; rfl)
    · have hv := v2.below (show Keep [] _ _ from hb).nil
      have c0_ := hv.at 0 rfl
      have c1_ := hv.at 1 rfl
      have c2_ := hv.at 2 rfl
      refine tv rfl (by rfl) ?_ (by exact h _ w7 rfl (Below.refl _ _))
      go_simp <;> first | rfl | (simp only [IntWalk.i64_left]; rfl)
    · have e3_ : X 3 = _ := hD 3 (by decide) rfl
      have e4_ : X 4 = _ := hD 4 (by decide) rfl
      refine wpOp_call (i := 5) (f := 21) (args := #[.agg #[.int .i64 f1, .int .i64 f2, .int .i64 f3], .agg #[.int .i64 g1, .int .i64 g2, .int .i64 g3]]) 41 rfl rfl (by simp only [e3_, e4_]; rfl) (by simp only [e3_, e4_]; go_simp) ?_
      refine (cross_p f1 f2 f3 g1 g2 g3 _).mono ?_
      rintro e w8 ⟨rfl, hk⟩
      exact ⟨_, rfl, h _ w8 rfl hk⟩
    · have hv := v0.below (show Keep [] _ _ from hb).nil
      have c0_ := hv.at 0 rfl
      have c1_ := hv.at 1 rfl
      have c2_ := hv.at 2 rfl
      refine tv rfl (by rfl) ?_ (by exact h _ w7 rfl (Below.refl _ _))
      go_simp <;> first | rfl | (simp only [IntWalk.i64_left]; rfl)
    · have e5_ : X 5 = _ := hD 5 (by decide) rfl
      have e6_ : X 6 = _ := hD 6 (by decide) rfl
      refine wpOp_call (i := 7) (f := 19) (args := #[.agg #[.int .i64 (crx f1 f2 f3 g1 g2 g3), .int .i64 (cry f1 f2 f3 g1 g2 g3), .int .i64 (crz f1 f2 f3 g1 g2 g3)], .agg #[.int .i64 e1, .int .i64 e2, .int .i64 e3]]) 43 rfl rfl (by simp only [e5_, e6_]; rfl) (by simp only [e5_, e6_]; go_simp) ?_
      refine (dot_p (crx f1 f2 f3 g1 g2 g3) (cry f1 f2 f3 g1 g2 g3) (crz f1 f2 f3 g1 g2 g3) e1 e2 e3 _).mono ?_
      rintro e w8 ⟨rfl, hk⟩
      rw [h2.out]
      exact ⟨_, rfl, h _ w8 rfl hk⟩
    · have e2_ : X 2 = _ := hD 2 (by decide) rfl
      have e7_ : X 7 = _ := hD 7 (by decide) rfl
      refine tv rfl (by simp only [e2_, e7_]; rfl) ?_ (by exact h _ w7 rfl (Below.refl _ _))
      simp only [e2_, e7_]; go_simp <;> first | rfl | (simp only [IntWalk.i64_left]; rfl)
    · have e8_ : X 8 = _ := hD 8 (by decide) rfl
      refine tv rfl (by simp only [e8_]; rfl) ?_ (by exact h _ w7 rfl (Below.refl _ _))
      simp only [e8_]; go_simp <;> first | rfl | (simp only [IntWalk.i64_left]; rfl)
    · have e9_ : X 9 = _ := hD 9 (by decide) rfl
      have hv := v3.below (show Keep [] _ _ from hb).nil
      have c0_ := hv.at 0 rfl
      have c1_ := hv.at 1 rfl
      have c2_ := hv.at 2 rfl
      refine tv rfl (by simp only [e9_]; rfl) ?_ (by exact h _ w7 rfl (Below.refl _ _))
      simp only [e9_]; go_simp <;> first | rfl | (simp only [IntWalk.i64_left]; rfl)
    · have e9_ : X 9 = _ := hD 9 (by decide) rfl
      have hv := v2.below (show Keep [] _ _ from hb).nil
      have c0_ := hv.at 0 rfl
      have c1_ := hv.at 1 rfl
      have c2_ := hv.at 2 rfl
      refine tv rfl (by simp only [e9_]; rfl) ?_ (by exact h _ w7 rfl (Below.refl _ _))
      simp only [e9_]; go_simp <;> first | rfl | (simp only [IntWalk.i64_left]; rfl)
    · have e9_ : X 9 = _ := hD 9 (by decide) rfl
      have e10_ : X 10 = _ := hD 10 (by decide) rfl
      have e11_ : X 11 = _ := hD 11 (by decide) rfl
      refine wpOp_call (i := 12) (f := 19) (args := #[.agg #[.int .i64 (crx e1 e2 e3 f1 f2 f3), .int .i64 (cry e1 e2 e3 f1 f2 f3), .int .i64 (crz e1 e2 e3 f1 f2 f3)], .agg #[.int .i64 g1, .int .i64 g2, .int .i64 g3]]) 48 rfl rfl (by simp only [e9_, e10_, e11_]; rfl) (by simp only [e9_, e10_, e11_]; go_simp) ?_
      refine (dot_p (crx e1 e2 e3 f1 f2 f3) (cry e1 e2 e3 f1 f2 f3) (crz e1 e2 e3 f1 f2 f3) g1 g2 g3 _).mono ?_
      rintro e w8 ⟨rfl, hk⟩
      exact ⟨_, rfl, h _ w8 rfl hk⟩
    · have e9_ : X 9 = _ := hD 9 (by decide) rfl
      have hv := v2.below (show Keep [] _ _ from hb).nil
      have c0_ := hv.at 0 rfl
      have c1_ := hv.at 1 rfl
      have c2_ := hv.at 2 rfl
      refine tv rfl (by simp only [e9_]; rfl) ?_ (by exact h _ w7 rfl (Below.refl _ _))
      simp only [e9_]; go_simp <;> first | rfl | (simp only [IntWalk.i64_left]; rfl)
    · have e9_ : X 9 = _ := hD 9 (by decide) rfl
      have hv := v0.below (show Keep [] _ _ from hb).nil
      have c0_ := hv.at 0 rfl
      have c1_ := hv.at 1 rfl
      have c2_ := hv.at 2 rfl
      refine tv rfl (by simp only [e9_]; rfl) ?_ (by exact h _ w7 rfl (Below.refl _ _))
      simp only [e9_]; go_simp <;> first | rfl | (simp only [IntWalk.i64_left]; rfl)
    · have e9_ : X 9 = _ := hD 9 (by decide) rfl
      have e13_ : X 13 = _ := hD 13 (by decide) rfl
      have e14_ : X 14 = _ := hD 14 (by decide) rfl
      refine wpOp_call (i := 15) (f := 21) (args := #[.agg #[.int .i64 g1, .int .i64 g2, .int .i64 g3], .agg #[.int .i64 e1, .int .i64 e2, .int .i64 e3]]) 51 rfl rfl (by simp only [e9_, e13_, e14_]; rfl) (by simp only [e9_, e13_, e14_]; go_simp) ?_
      refine (cross_p g1 g2 g3 e1 e2 e3 _).mono ?_
      rintro e w8 ⟨rfl, hk⟩
      exact ⟨_, rfl, h _ w8 rfl hk⟩
    · have e9_ : X 9 = _ := hD 9 (by decide) rfl
      have hv := v1.below (show Keep [] _ _ from hb).nil
      have c0_ := hv.at 0 rfl
      have c1_ := hv.at 1 rfl
      have c2_ := hv.at 2 rfl
      refine tv rfl (by simp only [e9_]; rfl) ?_ (by exact h _ w7 rfl (Below.refl _ _))
      simp only [e9_]; go_simp <;> first | rfl | (simp only [IntWalk.i64_left]; rfl)
    · have e9_ : X 9 = _ := hD 9 (by decide) rfl
      have e15_ : X 15 = _ := hD 15 (by decide) rfl
      have e16_ : X 16 = _ := hD 16 (by decide) rfl
      refine wpOp_call (i := 17) (f := 19) (args := #[.agg #[.int .i64 (crx g1 g2 g3 e1 e2 e3), .int .i64 (cry g1 g2 g3 e1 e2 e3), .int .i64 (crz g1 g2 g3 e1 e2 e3)], .agg #[.int .i64 f1, .int .i64 f2, .int .i64 f3]]) 53 rfl rfl (by simp only [e9_, e15_, e16_]; rfl) (by simp only [e9_, e15_, e16_]; go_simp) ?_
      refine (dot_p (crx g1 g2 g3 e1 e2 e3) (cry g1 g2 g3 e1 e2 e3) (crz g1 g2 g3 e1 e2 e3) f1 f2 f3 _).mono ?_
      rintro e w8 ⟨rfl, hk⟩
      rw [h3.out]
      exact ⟨_, rfl, h _ w8 rfl hk⟩
    · have e9_ : X 9 = _ := hD 9 (by decide) rfl
      have e12_ : X 12 = _ := hD 12 (by decide) rfl
      have e17_ : X 17 = _ := hD 17 (by decide) rfl
      refine tv rfl (by simp only [e9_, e12_, e17_]; rfl) ?_ (by exact h _ w7 rfl (Below.refl _ _))
      simp only [e9_, e12_, e17_]; go_simp <;> first | rfl | (simp only [IntWalk.i64_left]; rfl)
    · have e9_ : X 9 = _ := hD 9 (by decide) rfl
      have e18_ : X 18 = _ := hD 18 (by decide) rfl
      refine tv rfl (by simp only [e9_, e18_]; rfl) ?_ (by exact h _ w7 rfl (Below.refl _ _))
      simp only [e9_, e18_]; go_simp <;> first | rfl | (simp only [IntWalk.i64_left]; rfl)
    · have e19_ : X 19 = _ := hD 19 (by decide) rfl
      refine tv rfl (by simp only [e19_]; rfl) ?_ (by exact h _ w7 rfl (Below.refl _ _))
      simp only [e19_]; go_simp <;> first | rfl | (simp only [IntWalk.i64_left]; rfl)
  case al => exact Each.nil
  case st => exact Each.nil
  case into => exact Each.nil
  case fin =>
    intro X5_ W8 hI
    have hE : Keep [] W7 W8 := hI.keep
    have e20_ : X5_ 20 = _ := hI.fact 20 (by decide) rfl rfl
    have v0 := v0.below hE.nil
    have v1 := v1.below hE.nil
    have v2 := v2.below hE.nil
    have v3 := v3.below hE.nil
    have v4 := v4.below hE.nil
    have hB := hB.trans (hE.nil.mono hB.size)
    simp only [e20_]
    clear e20_ hI hE
    go_wp2_with fail
    refine wp_region_dag (by kernel_rfl) ?_
    intro W9 hk
    have hs := hk
    have v0 := v0.below hs
    have v1 := v1.below hs
    have v2 := v2.below hs
    have v3 := v3.below hs
    have v4 := v4.below hs
    have hB := hB.trans (hs.mono hB.size)
    clear hs hk
    refine dagV (fun _ => trivial) 32 ?hn (fun X => ⟨#[.agg #[.int .i64 e1, .int .i64 e2, .int .i64 e3], .agg #[.int .i64 f1, .int .i64 f2, .int .i64 f3], .agg #[.int .i64 g1, .int .i64 g2, .int .i64 g3], .pointer (some ⟨b0, 0, none⟩), .pointer (some ⟨b1, 0, none⟩), .pointer (some ⟨b2, 0, none⟩), X 31, .bool true, .pointer (some ⟨b3, 0, none⟩), .pointer (some ⟨b4, 0, none⟩), .bool true, .bool true, .bool true, .agg #[.int .i64 e1, .int .i64 e2, .int .i64 e3], .agg #[.int .i64 f1, .int .i64 f2, .int .i64 f3], .agg #[.int .i64 (crx e1 e2 e3 f1 f2 f3), .int .i64 (cry e1 e2 e3 f1 f2 f3), .int .i64 (crz e1 e2 e3 f1 f2 f3)], .agg #[.int .i64 f1, .int .i64 f2, .int .i64 f3], .agg #[.int .i64 e1, .int .i64 e2, .int .i64 e3], .agg #[.int .i64 (crx f1 f2 f3 e1 e2 e3), .int .i64 (cry f1 f2 f3 e1 e2 e3), .int .i64 (crz f1 f2 f3 e1 e2 e3)], .agg #[.int .i64 (crx e1 e2 e3 f1 f2 f3), .int .i64 (cry e1 e2 e3 f1 f2 f3), .int .i64 (crz e1 e2 e3 f1 f2 f3)], .agg #[.int .i64 e1, .int .i64 e2, .int .i64 e3], .int .i64 0, .bool true, .bool true, .agg #[.int .i64 (crx e1 e2 e3 f1 f2 f3), .int .i64 (cry e1 e2 e3 f1 f2 f3), .int .i64 (crz e1 e2 e3 f1 f2 f3)], .agg #[.int .i64 f1, .int .i64 f2, .int .i64 f3], .int .i64 0, .bool true, .bool true, .bool true, .agg #[.int .i64 (crx e1 e2 e3 f1 f2 f3), .int .i64 (cry e1 e2 e3 f1 f2 f3), .int .i64 (crz e1 e2 e3 f1 f2 f3)], .agg #[.int .i64 (crx f1 f2 f3 e1 e2 e3), .int .i64 (cry f1 f2 f3 e1 e2 e3), .int .i64 (crz f1 f2 f3 e1 e2 e3)], .agg #[.int .i64 0, .int .i64 0, .int .i64 0], .agg #[.int .i64 0, .int .i64 0, .int .i64 0], .bool true, .bool true, X5_ 0, X5_ 1, X5_ 2, X5_ 3, X5_ 4, X5_ 5, X5_ 6, X5_ 7, X5_ 8, X5_ 9, X5_ 10, X5_ 11, X5_ 12, X5_ 13, X5_ 14, X5_ 15, X5_ 16, X5_ 17, X5_ 18, X5_ 19, X 0, X 1, X 2, X 3, X 4, X 5, X 6, X 7, X 8, X 9, X 10, X 11, X 12, X 13, X 14, X 15, X 16, X 17, X 18, X 19, X 20, X 21, X 22, X 23, X 24, X 25, X 26, X 27, X 28, X 29, X 30], []⟩) [(0, 0, 0), (0, 0, 0), (0, 0, 0), (0, 0, 0), (0, 0, 0), (0, 0, 0), (0, 0, 0), (0, 0, 0), (0, 0, 0), (0, 0, 0), (0, 0, 0), (0, 0, 0), (0, 0, 0), (0, 0, 0), (0, 0, 0), (0, 0, 0), (0, 0, 0), (0, 0, 0), (0, 0, 0), (0, 0, 0), (0, 0, 0), (0, 0, 0), (0, 0, 0), (0, 0, 0), (0, 0, 0), (0, 0, 0), (0, 0, 0), (0, 0, 0), (0, 0, 0), (0, 0, 0), (0, 0, 0), (0, 0, 0)] (fun _ => []) [.val (.bool true), .val (.bool true), .val (.bool true), .val (.bool true), .val (.bool true), .val (.bool true), .val (.bool true), .val (.bool true), .val (.agg #[.int .i64 e1, .int .i64 e2, .int .i64 e3]), .val (.agg #[.int .i64 f1, .int .i64 f2, .int .i64 f3]), .val (.agg #[.int .i64 (wrap64 (e1 + f1)), .int .i64 (wrap64 (e2 + f2)), .int .i64 (wrap64 (e3 + f3))]), .val (.agg #[.int .i64 f1, .int .i64 f2, .int .i64 f3]), .val (.agg #[.int .i64 e1, .int .i64 e2, .int .i64 e3]), .val (.agg #[.int .i64 e1, .int .i64 e2, .int .i64 e3]), .val (.bool true), .val (.bool true), .val (.bool true), .val (.agg #[.int .i64 e1, .int .i64 e2, .int .i64 e3]), .val (.agg #[.int .i64 f1, .int .i64 f2, .int .i64 f3]), .val (.agg #[.int .i64 g1, .int .i64 g2, .int .i64 g3]), .val (.agg #[.int .i64 (wrap64 (f1 + g1)), .int .i64 (wrap64 (f2 + g2)), .int .i64 (wrap64 (f3 + g3))]), .val (.int .i64 (wrap64 ((dt e1 e2 e3 f1 f2 f3) + (dt e1 e2 e3 g1 g2 g3)))), .val (.agg #[.int .i64 e1, .int .i64 e2, .int .i64 e3]), .val (.agg #[.int .i64 f1, .int .i64 f2, .int .i64 f3]), .val (.int .i64 (dt e1 e2 e3 f1 f2 f3)), .val (.agg #[.int .i64 e1, .int .i64 e2, .int .i64 e3]), .val (.agg #[.int .i64 g1, .int .i64 g2, .int .i64 g3]), .val (.int .i64 (dt e1 e2 e3 g1 g2 g3)), .val (.int .i64 (wrap64 ((dt e1 e2 e3 f1 f2 f3) + (dt e1 e2 e3 g1 g2 g3)))), .val (.bool true), .val (.bool true), .val (.bool true)] [[], [0], [1], [1, 2], [3], [4], [4, 5], [6], [7], [7], [7, 8, 9], [7], [7, 10, 11], [7], [7, 12, 13], [7, 14], [15], [16], [16], [16], [16, 18, 19], [16, 17, 20], [16], [16], [16, 22, 23], [16], [16], [16, 25, 26], [16, 24, 27], [16, 21, 28], [16, 29], [30]] [0, 1, 2, 3, 4, 5, 6, 7, 8, 9, 10, 11, 12, 13, 14, 15, 16, 17, 18, 19, 20, 21, 22, 23, 24, 25, 26, 27, 28, 29, 30, 31] [] [] [] (fun _ => 0) W9 (by kernel_rfl) (by kernel_rfl) (by kernel_rfl) (by kernel_rfl) (by kernel_rfl) ?dist ?olds ?op ?al ?st ?into ?fin (upd (fun _ => undef) 31 (.bool false)) _ _ (by kernel_rfl) (of_decide_eq_true (by kernel_rfl)) (of_decide_eq_true (by kernel_rfl))
    case hn => rfl
    case dist => intro i hi j hj; simp at hi hj; try omega
    case olds => exact nofun
    case op =>
      repeat' first | exact Each.nil | refine Each.cons ?_ ?_
      all_goals intro X w7 H hb hD h
      · refine tv rfl (by rfl) ?_ (by exact h _ w7 rfl (Below.refl _ _))
        go_simp <;> first | rfl | (simp only [IntWalk.i64_left]; rfl)
      · have e0_ : X 0 = _ := hD 0 (by decide) rfl
        refine tv rfl (by simp only [e0_]; rfl) ?_ (by exact h _ w7 rfl (Below.refl _ _))
        simp only [e0_]; go_simp <;> first | rfl | (simp only [IntWalk.i64_left]; rfl)
      · have e1_ : X 1 = _ := hD 1 (by decide) rfl
        refine tv rfl (by simp only [e1_]; rfl) ?_ (by exact h _ w7 rfl (Below.refl _ _))
        simp only [e1_]; go_simp <;> first | rfl | (simp only [IntWalk.i64_left]; rfl)
      · have e1_ : X 1 = _ := hD 1 (by decide) rfl
        have e2_ : X 2 = _ := hD 2 (by decide) rfl
        refine tv rfl (by simp only [e1_, e2_]; rfl) ?_ (by exact h _ w7 rfl (Below.refl _ _))
        simp only [e1_, e2_]; go_simp <;> first | rfl | (simp only [IntWalk.i64_left]; rfl)
      · have e3_ : X 3 = _ := hD 3 (by decide) rfl
        refine tv rfl (by simp only [e3_]; rfl) ?_ (by exact h _ w7 rfl (Below.refl _ _))
        simp only [e3_]; go_simp <;> first | rfl | (simp only [IntWalk.i64_left]; rfl)
      · have e4_ : X 4 = _ := hD 4 (by decide) rfl
        refine tv rfl (by simp only [e4_]; rfl) ?_ (by exact h _ w7 rfl (Below.refl _ _))
        simp only [e4_]; go_simp <;> first | rfl | (simp only [IntWalk.i64_left]; rfl)
      · have e4_ : X 4 = _ := hD 4 (by decide) rfl
        have e5_ : X 5 = _ := hD 5 (by decide) rfl
        refine tv rfl (by simp only [e4_, e5_]; rfl) ?_ (by exact h _ w7 rfl (Below.refl _ _))
        simp only [e4_, e5_]; go_simp <;> first | rfl | (simp only [IntWalk.i64_left]; rfl)
      · have e6_ : X 6 = _ := hD 6 (by decide) rfl
        refine tv rfl (by simp only [e6_]; rfl) ?_ (by exact h _ w7 rfl (Below.refl _ _))
        simp only [e6_]; go_simp <;> first | rfl | (simp only [IntWalk.i64_left]; rfl)
      · have e7_ : X 7 = _ := hD 7 (by decide) rfl
        have hv := v0.below (show Keep [] _ _ from hb).nil
        have c0_ := hv.at 0 rfl
        have c1_ := hv.at 1 rfl
        have c2_ := hv.at 2 rfl
        refine tv rfl (by simp only [e7_]; rfl) ?_ (by exact h _ w7 rfl (Below.refl _ _))
        simp only [e7_]; go_simp <;> first | rfl | (simp only [IntWalk.i64_left]; rfl)
      · have e7_ : X 7 = _ := hD 7 (by decide) rfl
        have hv := v1.below (show Keep [] _ _ from hb).nil
        have c0_ := hv.at 0 rfl
        have c1_ := hv.at 1 rfl
        have c2_ := hv.at 2 rfl
        refine tv rfl (by simp only [e7_]; rfl) ?_ (by exact h _ w7 rfl (Below.refl _ _))
        simp only [e7_]; go_simp <;> first | rfl | (simp only [IntWalk.i64_left]; rfl)
      · have e7_ : X 7 = _ := hD 7 (by decide) rfl
        have e8_ : X 8 = _ := hD 8 (by decide) rfl
        have e9_ : X 9 = _ := hD 9 (by decide) rfl
        refine wpOp_call (i := 10) (f := 15) (args := #[.agg #[.int .i64 e1, .int .i64 e2, .int .i64 e3], .agg #[.int .i64 f1, .int .i64 f2, .int .i64 f3]]) 66 rfl rfl (by simp only [e7_, e8_, e9_]; rfl) (by simp only [e7_, e8_, e9_]; go_simp) ?_
        refine (add_p e1 e2 e3 f1 f2 f3 _).mono ?_
        rintro e w8 ⟨rfl, hk⟩
        exact ⟨_, rfl, h _ w8 rfl hk⟩
      · have e7_ : X 7 = _ := hD 7 (by decide) rfl
        have hv := v1.below (show Keep [] _ _ from hb).nil
        have c0_ := hv.at 0 rfl
        have c1_ := hv.at 1 rfl
        have c2_ := hv.at 2 rfl
        refine tv rfl (by simp only [e7_]; rfl) ?_ (by exact h _ w7 rfl (Below.refl _ _))
        simp only [e7_]; go_simp <;> first | rfl | (simp only [IntWalk.i64_left]; rfl)
      · have e7_ : X 7 = _ := hD 7 (by decide) rfl
        have e10_ : X 10 = _ := hD 10 (by decide) rfl
        have e11_ : X 11 = _ := hD 11 (by decide) rfl
        refine wpOp_call (i := 12) (f := 17) (args := #[.agg #[.int .i64 (wrap64 (e1 + f1)), .int .i64 (wrap64 (e2 + f2)), .int .i64 (wrap64 (e3 + f3))], .agg #[.int .i64 f1, .int .i64 f2, .int .i64 f3]]) 68 rfl rfl (by simp only [e7_, e10_, e11_]; rfl) (by simp only [e7_, e10_, e11_]; go_simp) ?_
        refine (sub_p (wrap64 (e1 + f1)) (wrap64 (e2 + f2)) (wrap64 (e3 + f3)) f1 f2 f3 _).mono ?_
        rintro e w8 ⟨rfl, hk⟩
        rw [h4.out, h5.out, h6.out]
        exact ⟨_, rfl, h _ w8 rfl hk⟩
      · have e7_ : X 7 = _ := hD 7 (by decide) rfl
        have hv := v0.below (show Keep [] _ _ from hb).nil
        have c0_ := hv.at 0 rfl
        have c1_ := hv.at 1 rfl
        have c2_ := hv.at 2 rfl
        refine tv rfl (by simp only [e7_]; rfl) ?_ (by exact h _ w7 rfl (Below.refl _ _))
        simp only [e7_]; go_simp <;> first | rfl | (simp only [IntWalk.i64_left]; rfl)
      · have e7_ : X 7 = _ := hD 7 (by decide) rfl
        have e12_ : X 12 = _ := hD 12 (by decide) rfl
        have e13_ : X 13 = _ := hD 13 (by decide) rfl
        refine tv rfl (by simp only [e7_, e12_, e13_]; rfl) ?_ (by exact h _ w7 rfl (Below.refl _ _))
        simp only [e7_, e12_, e13_]; go_simp <;> first | rfl | (simp only [IntWalk.i64_left]; rfl)
      · have e7_ : X 7 = _ := hD 7 (by decide) rfl
        have e14_ : X 14 = _ := hD 14 (by decide) rfl
        refine tv rfl (by simp only [e7_, e14_]; rfl) ?_ (by exact h _ w7 rfl (Below.refl _ _))
        simp only [e7_, e14_]; go_simp <;> first | rfl | (simp only [IntWalk.i64_left]; rfl)
      · have e15_ : X 15 = _ := hD 15 (by decide) rfl
        refine tv rfl (by simp only [e15_]; rfl) ?_ (by exact h _ w7 rfl (Below.refl _ _))
        simp only [e15_]; go_simp <;> first | rfl | (simp only [IntWalk.i64_left]; rfl)
      · have e16_ : X 16 = _ := hD 16 (by decide) rfl
        have hv := v0.below (show Keep [] _ _ from hb).nil
        have c0_ := hv.at 0 rfl
        have c1_ := hv.at 1 rfl
        have c2_ := hv.at 2 rfl
        refine tv rfl (by simp only [e16_]; rfl) ?_ (by exact h _ w7 rfl (Below.refl _ _))
        simp only [e16_]; go_simp <;> first | rfl | (simp only [IntWalk.i64_left]; rfl)
      · have e16_ : X 16 = _ := hD 16 (by decide) rfl
        have hv := v1.below (show Keep [] _ _ from hb).nil
        have c0_ := hv.at 0 rfl
        have c1_ := hv.at 1 rfl
        have c2_ := hv.at 2 rfl
        refine tv rfl (by simp only [e16_]; rfl) ?_ (by exact h _ w7 rfl (Below.refl _ _))
        simp only [e16_]; go_simp <;> first | rfl | (simp only [IntWalk.i64_left]; rfl)
      · have e16_ : X 16 = _ := hD 16 (by decide) rfl
        have hv := v2.below (show Keep [] _ _ from hb).nil
        have c0_ := hv.at 0 rfl
        have c1_ := hv.at 1 rfl
        have c2_ := hv.at 2 rfl
        refine tv rfl (by simp only [e16_]; rfl) ?_ (by exact h _ w7 rfl (Below.refl _ _))
        simp only [e16_]; go_simp <;> first | rfl | (simp only [IntWalk.i64_left]; rfl)
      · have e16_ : X 16 = _ := hD 16 (by decide) rfl
        have e18_ : X 18 = _ := hD 18 (by decide) rfl
        have e19_ : X 19 = _ := hD 19 (by decide) rfl
        refine wpOp_call (i := 20) (f := 15) (args := #[.agg #[.int .i64 f1, .int .i64 f2, .int .i64 f3], .agg #[.int .i64 g1, .int .i64 g2, .int .i64 g3]]) 76 rfl rfl (by simp only [e16_, e18_, e19_]; rfl) (by simp only [e16_, e18_, e19_]; go_simp) ?_
        refine (add_p f1 f2 f3 g1 g2 g3 _).mono ?_
        rintro e w8 ⟨rfl, hk⟩
        exact ⟨_, rfl, h _ w8 rfl hk⟩
      · have e16_ : X 16 = _ := hD 16 (by decide) rfl
        have e17_ : X 17 = _ := hD 17 (by decide) rfl
        have e20_ : X 20 = _ := hD 20 (by decide) rfl
        refine wpOp_call (i := 21) (f := 19) (args := #[.agg #[.int .i64 e1, .int .i64 e2, .int .i64 e3], .agg #[.int .i64 (wrap64 (f1 + g1)), .int .i64 (wrap64 (f2 + g2)), .int .i64 (wrap64 (f3 + g3))]]) 77 rfl rfl (by simp only [e16_, e17_, e20_]; rfl) (by simp only [e16_, e17_, e20_]; go_simp) ?_
        refine (dot_p e1 e2 e3 (wrap64 (f1 + g1)) (wrap64 (f2 + g2)) (wrap64 (f3 + g3)) _).mono ?_
        rintro e w8 ⟨rfl, hk⟩
        rw [h7.out]
        exact ⟨_, rfl, h _ w8 rfl hk⟩
      · have e16_ : X 16 = _ := hD 16 (by decide) rfl
        have hv := v0.below (show Keep [] _ _ from hb).nil
        have c0_ := hv.at 0 rfl
        have c1_ := hv.at 1 rfl
        have c2_ := hv.at 2 rfl
        refine tv rfl (by simp only [e16_]; rfl) ?_ (by exact h _ w7 rfl (Below.refl _ _))
        simp only [e16_]; go_simp <;> first | rfl | (simp only [IntWalk.i64_left]; rfl)
      · have e16_ : X 16 = _ := hD 16 (by decide) rfl
        have hv := v1.below (show Keep [] _ _ from hb).nil
        have c0_ := hv.at 0 rfl
        have c1_ := hv.at 1 rfl
        have c2_ := hv.at 2 rfl
        refine tv rfl (by simp only [e16_]; rfl) ?_ (by exact h _ w7 rfl (Below.refl _ _))
        simp only [e16_]; go_simp <;> first | rfl | (simp only [IntWalk.i64_left]; rfl)
      · have e16_ : X 16 = _ := hD 16 (by decide) rfl
        have e22_ : X 22 = _ := hD 22 (by decide) rfl
        have e23_ : X 23 = _ := hD 23 (by decide) rfl
        refine wpOp_call (i := 24) (f := 19) (args := #[.agg #[.int .i64 e1, .int .i64 e2, .int .i64 e3], .agg #[.int .i64 f1, .int .i64 f2, .int .i64 f3]]) 80 rfl rfl (by simp only [e16_, e22_, e23_]; rfl) (by simp only [e16_, e22_, e23_]; go_simp) ?_
        refine (dot_p e1 e2 e3 f1 f2 f3 _).mono ?_
        rintro e w8 ⟨rfl, hk⟩
        exact ⟨_, rfl, h _ w8 rfl hk⟩
      · have e16_ : X 16 = _ := hD 16 (by decide) rfl
        have hv := v0.below (show Keep [] _ _ from hb).nil
        have c0_ := hv.at 0 rfl
        have c1_ := hv.at 1 rfl
        have c2_ := hv.at 2 rfl
        refine tv rfl (by simp only [e16_]; rfl) ?_ (by exact h _ w7 rfl (Below.refl _ _))
        simp only [e16_]; go_simp <;> first | rfl | (simp only [IntWalk.i64_left]; rfl)
      · have e16_ : X 16 = _ := hD 16 (by decide) rfl
        have hv := v2.below (show Keep [] _ _ from hb).nil
        have c0_ := hv.at 0 rfl
        have c1_ := hv.at 1 rfl
        have c2_ := hv.at 2 rfl
        refine tv rfl (by simp only [e16_]; rfl) ?_ (by exact h _ w7 rfl (Below.refl _ _))
        simp only [e16_]; go_simp <;> first | rfl | (simp only [IntWalk.i64_left]; rfl)
      · have e16_ : X 16 = _ := hD 16 (by decide) rfl
        have e25_ : X 25 = _ := hD 25 (by decide) rfl
        have e26_ : X 26 = _ := hD 26 (by decide) rfl
        refine wpOp_call (i := 27) (f := 19) (args := #[.agg #[.int .i64 e1, .int .i64 e2, .int .i64 e3], .agg #[.int .i64 g1, .int .i64 g2, .int .i64 g3]]) 83 rfl rfl (by simp only [e16_, e25_, e26_]; rfl) (by simp only [e16_, e25_, e26_]; go_simp) ?_
        refine (dot_p e1 e2 e3 g1 g2 g3 _).mono ?_
        rintro e w8 ⟨rfl, hk⟩
        exact ⟨_, rfl, h _ w8 rfl hk⟩
      · have e16_ : X 16 = _ := hD 16 (by decide) rfl
        have e24_ : X 24 = _ := hD 24 (by decide) rfl
        have e27_ : X 27 = _ := hD 27 (by decide) rfl
        refine tv rfl (by simp only [e16_, e24_, e27_]; rfl) ?_ (by exact h _ w7 rfl (Below.refl _ _))
        simp only [e16_, e24_, e27_]; go_simp <;> first | rfl | (simp only [IntWalk.i64_left]; rfl)
      · have e16_ : X 16 = _ := hD 16 (by decide) rfl
        have e21_ : X 21 = _ := hD 21 (by decide) rfl
        have e28_ : X 28 = _ := hD 28 (by decide) rfl
        refine tv rfl (by simp only [e16_, e21_, e28_]; rfl) ?_ (by exact h _ w7 rfl (Below.refl _ _))
        simp only [e16_, e21_, e28_]; go_simp <;> first | rfl | (simp only [IntWalk.i64_left]; rfl)
      · have e16_ : X 16 = _ := hD 16 (by decide) rfl
        have e29_ : X 29 = _ := hD 29 (by decide) rfl
        refine tv rfl (by simp only [e16_, e29_]; rfl) ?_ (by exact h _ w7 rfl (Below.refl _ _))
        simp only [e16_, e29_]; go_simp <;> first | rfl | (simp only [IntWalk.i64_left]; rfl)
      · have e30_ : X 30 = _ := hD 30 (by decide) rfl
        refine tv rfl (by simp only [e30_]; rfl) ?_ (by exact h _ w7 rfl (Below.refl _ _))
        simp only [e30_]; go_simp <;> first | rfl | (simp only [IntWalk.i64_left]; rfl)
    case al => exact Each.nil
    case st => exact Each.nil
    case into => exact Each.nil
    case fin =>
      intro X6_ W10 hI
      have hE : Keep [] W9 W10 := hI.keep
      have e31_ : X6_ 31 = _ := hI.fact 31 (by decide) rfl rfl
      have v0 := v0.below hE.nil
      have v1 := v1.below hE.nil
      have v2 := v2.below hE.nil
      have v3 := v3.below hE.nil
      have v4 := v4.below hE.nil
      have hB := hB.trans (hE.nil.mono hB.size)
      simp only [e31_]
      clear e31_ hI hE
      go_wp2_with fail
      have hBs := hB.size
      go_ret
      exact ⟨rfl, by repeat (first | exact hB | refine Below.alloc ?_ (by first | omega | (simp; try omega)) _ | refine Below.setCell ?_ (by first | omega | (simp; try omega)) _)⟩

end Go.Proofs.Ytcgdedcgncjplaa
